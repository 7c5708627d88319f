import PyProof.Rows.All
import Wide.All
import OpenK.AllK
import Wide.FinOn
import HandS.ClsMeth
import HandS.Conv
import HandS.Deep
import HandS.Dict
import HandS.ExcField
import HandS.ExcInit
import HandS.ExcIs
import HandS.ExcOwn
import HandS.ExcValue
import HandS.FStr
import HandS.Flow
import HandS.ForExc
import HandS.ForMost
import HandS.IsInst
import HandS.RaiseMore
import HandS.ReplaceDef
import HandS.ReplaceList
import HandS.ReplaceLit
import HandS.SetFor
import HandS.Small
import HandS.SortInts
import HandS.Strs
import HandS.Style
import HandS.TupAny
import HandS.Walk
import HandS.Wide
import HandS.WideBits
import HandS.Zip
import HandS.Zip0
import KE.DataCmp
import KE.GoesMore
import KE.KDictZip
import KE.KExcIs
import KE.KExcStr
import KE.KTupSum
import KE.SortData
import PyProof.ListStr
import PySem.Challenge.RW_facesparted_k04_texts_of_no_sets
set_option Elab.async false
set_option linter.all false
set_option maxRecDepth 100000
namespace G
open PySem PySem.Spec PyProof.Rows L2

abbrev D := PyData
abbrev Frag := PySem.W.Frag

/-! ### data in a heap: lists are tracked as they are -/
mutual
inductive Dq (K : Frag) (H : Hp) : V → PyData → Prop
  | non : Dq K H .non .none
  | bl (b : Bool) : Dq K H (.bl b) (.bool b)
  | int (i : Int) : Dq K H (.int i) (.int i)
  | str (x : Str) : Dq K H (.str x) (.str x)
  | lst {a : Addr} {xs : List V} {ds : List PyData} : H a = some (.lst xs) → DqAll K H xs ds → Dq K H (.ref a) (.list ds)
  | tup {a : Addr} {xs : List V} {ds : List PyData} : SqT K H a xs → DqAll K H xs ds → Dq K H (.ref a) (.tuple ds)
inductive DqAll (K : Frag) (H : Hp) : List V → List PyData → Prop
  | nil : DqAll K H [] []
  | cons {v : V} {vs : List V} {d : PyData} {ds : List PyData} : Dq K H v d → DqAll K H vs ds → DqAll K H (v :: vs) (d :: ds)
end
mutual
theorem Dq.dp {K : Frag} {Z : Hp} : ∀ {v : V} {d : D}, Dq K Z v d → Dp K Z v d
  | _, _, .non => .non
  | _, _, .bl b => .bl b
  | _, _, .int i => .int i
  | _, _, .str x => .str x
  | _, _, .lst q a => .lst (.inl (.inl q)) (DqAll.dp a)
  | _, _, .tup q a => .tup q (DqAll.dp a)
theorem DqAll.dp {K : Frag} {Z : Hp} : ∀ {vs : List V} {ds : List D}, DqAll K Z vs ds → DpAll K Z vs ds
  | _, _, .nil => .nil
  | _, _, .cons a b => .cons (Dq.dp a) (DqAll.dp b)
end
theorem same_tup {K : Frag} {H H' : Hp} {a : Addr} {xs : List V} (e : Same H H') (h : SqT K H a xs) : SqT K H' a xs := by
  rcases h with h | h
  · refine .inl ?_
    rcases h with h | ⟨o, h⟩
    · exact .inl (e a _ h)
    · exact .inr ⟨o, e a _ h⟩
  · exact .inr h
mutual
theorem dp_mono {K : Frag} {Z Z' : Hp} (h : Same Z Z') : ∀ {v : V} {d : D}, Dq K Z v d → Dq K Z' v d
  | _, _, .non => .non
  | _, _, .bl b => .bl b
  | _, _, .int i => .int i
  | _, _, .str x => .str x
  | _, _, .lst q a => .lst (h _ _ q) (dpa_mono h a)
  | _, _, .tup q a => .tup (same_tup h q) (dpa_mono h a)
theorem dpa_mono {K : Frag} {Z Z' : Hp} (h : Same Z Z') : ∀ {vs : List V} {ds : List D}, DqAll K Z vs ds → DqAll K Z' vs ds
  | _, _, .nil => .nil
  | _, _, .cons a b => .cons (dp_mono h a) (dpa_mono h b)
end
theorem dpa_len {K : Frag} {Z : Hp} : ∀ {vs : List V} {ds : List D}, DqAll K Z vs ds → vs.length = ds.length
  | _, _, .nil => rfl
  | _, _, .cons _ b => by simp [dpa_len b]
theorem dpa_get {K : Frag} {Z : Hp} : ∀ {vs : List V} {ds : List D} {i : Nat} {d : D}, DqAll K Z vs ds → ds[i]? = some d → ∃ v, vs[i]? = some v ∧ Dq K Z v d
  | _, _, 0, _, .cons a _, e => ⟨_, rfl, by cases e; exact a⟩
  | _, _, i + 1, d, .cons _ b, e => by
    obtain ⟨v, h1, h2⟩ := dpa_get (i := i) b (by simpa using e)
    exact ⟨v, by simpa using h1, h2⟩
theorem dpa_get' {K : Frag} {Z : Hp} : ∀ {vs : List V} {ds : List D} {i : Nat} {v : V}, DqAll K Z vs ds → vs[i]? = some v → ∃ d, ds[i]? = some d ∧ Dq K Z v d
  | _, _, 0, _, .cons a _, e => ⟨_, rfl, by cases e; exact a⟩
  | _, _, i + 1, d, .cons _ b, e => by
    obtain ⟨v, h1, h2⟩ := dpa_get' (i := i) b (by simpa using e)
    exact ⟨v, by simpa using h1, h2⟩
theorem dpa_app {K : Frag} {Z : Hp} : ∀ {vs ws : List V} {ds es : List D}, DqAll K Z vs ds → DqAll K Z ws es → DqAll K Z (vs ++ ws) (ds ++ es)
  | _, _, _, _, .nil, h => h
  | _, _, _, _, .cons a b, h => .cons a (dpa_app b h)
theorem dpa_take {K : Frag} {Z : Hp} : ∀ {vs : List V} {ds : List D} (n : Nat), DqAll K Z vs ds → DqAll K Z (vs.take n) (ds.take n)
  | _, _, 0, _ => .nil
  | _, _, _ + 1, .nil => .nil
  | _, _, n + 1, .cons a b => .cons a (dpa_take n b)
theorem dpa_drop {K : Frag} {Z : Hp} : ∀ {vs : List V} {ds : List D} (n : Nat), DqAll K Z vs ds → DqAll K Z (vs.drop n) (ds.drop n)
  | _, _, 0, h => h
  | _, _, _ + 1, .nil => .nil
  | _, _, n + 1, .cons a b => dpa_drop n b
theorem dpa_set {K : Frag} {Z : Hp} {v : V} {d : D} (h : Dq K Z v d) : ∀ {vs : List V} {ds : List D} (n : Nat), DqAll K Z vs ds → DqAll K Z (vs.set n v) (ds.set n d)
  | _, _, _, .nil => .nil
  | _, _, 0, .cons a b => .cons h b
  | _, _, n + 1, .cons a b => .cons a (dpa_set h n b)
theorem dpa_rev {K : Frag} {Z : Hp} : ∀ {vs : List V} {ds : List D}, DqAll K Z vs ds → DqAll K Z vs.reverse ds.reverse
  | _, _, .nil => .nil
  | _, _, .cons a b => by
    rw [List.reverse_cons, List.reverse_cons]
    exact dpa_app (dpa_rev b) (.cons a .nil)
theorem dpa_erase {K : Frag} {Z : Hp} : ∀ {vs : List V} {ds : List D} (n : Nat), DqAll K Z vs ds → DqAll K Z (vs.eraseIdx n) (ds.eraseIdx n)
  | _, _, _, .nil => .nil
  | _, _, 0, .cons a b => b
  | _, _, n + 1, .cons a b => .cons a (dpa_erase n b)

/-! ### an exception that is held -/
structure Xn where
  cls : Str
  fs : List (Str × D)
/-- an exception object of the class c, its own dict dd, that is held and changed no more -/
def ExV (c : Value) (dd : Option Addr) (a : Addr) : HO := .ext fun h => ∃ (oe : Obj) (vs : Array Value), h.get? a = some oe ∧ Zc c dd oe ∧ oe.data = .fields vs
def XfOk (K : Frag) (Z : Hp) (fs : List (Str × D)) (dd : Option Addr) : Prop :=
  (fs = [] ∧ dd = none) ∨ ∃ d ws, dd = some d ∧ Z d = some (.xd ws) ∧ Paired (fun (p : Str × V) (q : Str × D) => p.1 = q.1 ∧ Dq K Z p.2 q.2) ws fs
theorem XfOk.mono {K : Frag} {Z Z' : Hp} (h : Same Z Z') {fs : List (Str × D)} {dd : Option Addr} : XfOk K Z fs dd → XfOk K Z' fs dd
  | .inl q => .inl q
  | .inr ⟨d, ws, e, q, p⟩ => .inr ⟨d, ws, e, h _ _ q, Paired.mapP p fun _ _ z => ⟨z.1, dp_mono h z.2⟩⟩
def XvOk (K : Frag) (Z : Hp) (x : Xn) (v : V) : Prop := ∃ (a : Addr) (c : Value) (dd : Option Addr), v = .ref a ∧ Z a = some (ExV c dd a) ∧ PySem.W.nsIn K mainGlobals x.cls = some (some c) ∧ XfOk K Z x.fs dd
theorem XvOk.mono {K : Frag} {Z Z' : Hp} (h : Same Z Z') {x : Xn} {v : V} : XvOk K Z x v → XvOk K Z' x v
  | ⟨a, c, dd, e, q, n, f⟩ => ⟨a, c, dd, e, h _ _ q, n, f.mono h⟩
/-! ### slots -/
inductive Ob where
  | lst (ds : List D)
  | dic (kvs : List (Key × D))
inductive Sl where
  | un
  | dat (d : D)
  | own (t : Option Nat) (o : Ob)
  | raw (x : Xn)
  | scr (ds : List D)
abbrev En := List Sl

/-- what an own object's content is in the heap -/
def ObOk (K : Frag) (Z : Hp) : Ob → HO → Prop
  | .lst ds, o => ∃ vs, o = .lst vs ∧ DqAll K Z vs ds
  | .dic kvs, o => ∃ ws : List (Key × V), o = .dK ws ∧ Paired (fun (a : Key × V) (b : Key × D) => a.1 = b.1 ∧ Dq K Z a.2 b.2) ws kvs
theorem ObOk.mono {K : Frag} {Z Z' : Hp} (h : Same Z Z') : ∀ {o : Ob} {x : HO}, ObOk K Z o x → ObOk K Z' o x
  | .lst _, _, ⟨vs, e, a⟩ => ⟨vs, e, dpa_mono h a⟩
  | .dic _, _, ⟨ws, e, a⟩ => ⟨ws, e, Paired.mapP a fun _ _ z => ⟨z.1, dp_mono h z.2⟩⟩

/-- the base: how things stood at an entry; W: what may be written -/
structure Bs where
  io : List Addr
  W : Addr → Prop
  H : Hp
  Z : Hp

def SlOk (K : Frag) (B : Bs) (Z H : Hp) : Sl → Option V → Prop
  | .un, _ => True
  | .dat d, x => ∃ v, x = some v ∧ Dq K Z v d
  | .raw w, x => ∃ u, x = some u ∧ XvOk K Z w u
  | .scr ds, x => ∃ a vs, x = some (.ref a) ∧ SqL K Z a vs ∧ DqAll K Z vs ds
  | .own t o, x => ∃ p u, x = some (.ref p) ∧ H p = some u ∧ Z p = none ∧ ObOk K Z o u ∧ (B.H p = none ∨ B.W p) ∧ ∀ k, t = some k → B.io[k]? = some p

structure Rl (K : Frag) (B : Bs) (e : En) (σ : L2.St) (Z H : Hp) : Prop where
  len : e.length = σ.length
  ok : ∀ (i : Nat) (s : Sl) (x : Option V), e[i]? = some s → σ[i]? = some x → SlOk K B Z H s x
  sep : ∀ (i j : Nat) (t u : Option Nat) (a b : Ob), i ≠ j → e[i]? = some (.own t a) → e[j]? = some (.own u b) → σ[i]? ≠ σ[j]?
  sub : Same Z H
  zup : Same B.Z Z
  keep : ∀ a o, B.H a = some o → ¬ B.W a → H a = some o
  zfr : ∀ a o, B.H a = some o → ¬ B.W a → Z a = B.Z a

section
variable {K : Frag} {B : Bs} {e e' : En} {σ : L2.St} {Z Z' H H' : Hp}
theorem Rl.dat (R : Rl K B e σ Z H) {i : Nat} {d : D} (h : e[i]? = some (.dat d)) : ∃ v, σ[i]? = some (some v) ∧ Dq K Z v d := by
  have hi : i < σ.length := by rw [← R.len]; exact (List.getElem?_eq_some_iff.mp h).1
  obtain ⟨v, e1, e2⟩ := R.ok i _ σ[i] h (List.getElem?_eq_getElem hi)
  exact ⟨v, by rw [List.getElem?_eq_getElem hi, e1], e2⟩
theorem Rl.raw (R : Rl K B e σ Z H) {i : Nat} {x : Xn} (h : e[i]? = some (.raw x)) : ∃ u, σ[i]? = some (some u) ∧ XvOk K Z x u := by
  have hi : i < σ.length := by rw [← R.len]; exact (List.getElem?_eq_some_iff.mp h).1
  obtain ⟨u, e1, e2⟩ := R.ok i _ σ[i] h (List.getElem?_eq_getElem hi)
  exact ⟨u, by rw [List.getElem?_eq_getElem hi, e1], e2⟩
theorem Rl.own (R : Rl K B e σ Z H) {i : Nat} {t : Option Nat} {o : Ob} (h : e[i]? = some (.own t o)) :
    ∃ p u, σ[i]? = some (some (.ref p)) ∧ H p = some u ∧ Z p = none ∧ ObOk K Z o u ∧ (B.H p = none ∨ B.W p) ∧ ∀ k, t = some k → B.io[k]? = some p := by
  have hi : i < σ.length := by rw [← R.len]; exact (List.getElem?_eq_some_iff.mp h).1
  obtain ⟨p, u, e1, r⟩ := R.ok i _ σ[i] h (List.getElem?_eq_getElem hi)
  exact ⟨p, u, by rw [List.getElem?_eq_getElem hi, e1], r⟩
theorem Rl.scr (R : Rl K B e σ Z H) {i : Nat} {ds : List D} (h : e[i]? = some (.scr ds)) : ∃ a vs, σ[i]? = some (some (.ref a)) ∧ SqL K Z a vs ∧ DqAll K Z vs ds := by
  have hi : i < σ.length := by rw [← R.len]; exact (List.getElem?_eq_some_iff.mp h).1
  obtain ⟨a, vs, e1, e2⟩ := R.ok i _ σ[i] h (List.getElem?_eq_getElem hi)
  exact ⟨a, vs, by rw [List.getElem?_eq_getElem hi, e1], e2⟩
/-- an address that some slot owns -/
def Owns (e : En) (σ : L2.St) (p : Addr) : Prop := ∃ (i : Nat) (t : Option Nat) (o : Ob), e[i]? = some (.own t o) ∧ σ[i]? = some (some (.ref p))
theorem Rl.owns (R : Rl K B e σ Z H) {p : Addr} (h : Owns e σ p) : (∃ u, H p = some u) ∧ Z p = none ∧ (B.H p = none ∨ B.W p) := by
  obtain ⟨i, t, o, h1, h2⟩ := h
  obtain ⟨q, u, e1, e2, e3, _, e5, _⟩ := R.own h1
  rw [h2] at e1
  cases e1
  exact ⟨⟨u, e2⟩, e3, e5⟩
theorem Rl.owns_one (R : Rl K B e σ Z H) {p : Addr} {i j : Nat} {t u : Option Nat} {a b : Ob} (h1 : e[i]? = some (.own t a)) (h2 : σ[i]? = some (some (.ref p))) (h3 : e[j]? = some (.own u b)) (h4 : σ[j]? = some (some (.ref p))) : i = j := by
  by_cases h : i = j
  · exact h
  · exact absurd (h2.trans h4.symm) (R.sep i j t u a b h h1 h3)

/-- more is frozen, nothing else -/
theorem Rl.grow (R : Rl K B e σ Z H) (z : Same Z Z') (s : Same Z' H') (k : ∀ p, H p = none → True)
    (ho : ∀ p u, Owns e σ p → H p = some u → H' p = some u ∧ Z' p = none) (hk : ∀ a o, B.H a = some o → ¬ B.W a → H' a = some o ∧ Z' a = Z a) : Rl K B e σ Z' H' := by
  refine ⟨R.len, fun i sl x h1 h2 => ?_, R.sep, s, R.zup.trans z, fun a o h1 h2 => (hk a o h1 h2).1, fun a o h1 h2 => (hk a o h1 h2).2.trans (R.zfr a o h1 h2)⟩
  have q := R.ok i sl x h1 h2
  cases sl with
  | un => trivial
  | dat d => obtain ⟨v, e1, e2⟩ := q; exact ⟨v, e1, dp_mono z e2⟩
  | raw v => obtain ⟨u, e1, e2⟩ := q; exact ⟨u, e1, e2.mono z⟩
  | scr ds => obtain ⟨a, vs, e1, e2, e3⟩ := q; exact ⟨a, vs, e1, Same.seq z e2, dpa_mono z e3⟩
  | own t o =>
    obtain ⟨p, u, e1, e2, e3, e4, e5, e6⟩ := q
    subst e1
    have w := ho p u ⟨i, t, o, h1, h2⟩ e2
    exact ⟨p, u, rfl, w.1, w.2, e4.mono z, e5, e6⟩
/-- a new object, frozen -/
theorem Rl.new (R : Rl K B e σ Z H) {p : Addr} {o : HO} (h : H p = none) : Rl K B e σ (upd Z p o) (upd H p o) ∧ Same Z (upd Z p o) := by
  have zn : Z p = none := by
    cases q : Z p with
    | none => rfl
    | some u => rw [R.sub p u q] at h; cases h
  have s1 : Same Z (upd Z p o) := fun a u q => by rw [upd_ne (ne_of_none q zn)]; exact q
  refine ⟨R.grow s1 (fun a u q => ?_) (fun _ _ => trivial) (fun q u ow hq => ?_) (fun a u ha hw => ?_), s1⟩
  · by_cases ha : a = p
    · subst ha; rw [upd_same] at q ⊢; exact q
    · rw [upd_ne ha] at q ⊢; exact R.sub a u q
  · have hne : q ≠ p := ne_of_none hq h
    rw [upd_ne hne, upd_ne hne]
    exact ⟨hq, (R.owns ow).2.1⟩
  · have hq := R.keep a u ha hw
    have hne : a ≠ p := ne_of_none hq h
    rw [upd_ne hne, upd_ne hne]
    exact ⟨hq, rfl⟩
/-- a new object, not frozen -/
theorem Rl.new0 (R : Rl K B e σ Z H) {p : Addr} {o : HO} (h : H p = none) : Rl K B e σ Z (upd H p o) := by
  refine R.grow (Same.refl Z) (fun a u q => ?_) (fun _ _ => trivial) (fun q u ow hq => ?_) (fun a u ha hw => ?_)
  · have hne : a ≠ p := ne_of_none (R.sub a u q) h
    rw [upd_ne hne]; exact R.sub a u q
  · have hne : q ≠ p := ne_of_none hq h
    rw [upd_ne hne]
    exact ⟨hq, (R.owns ow).2.1⟩
  · have hq := R.keep a u ha hw
    have hne : a ≠ p := ne_of_none hq h
    rw [upd_ne hne]
    exact ⟨hq, rfl⟩
/-- a thing that no slot owns is written: frozen from now on or not -/
theorem Rl.fix (R : Rl K B e σ Z H) {p : Addr} {o : HO} (hz : Z p = none) (hb : B.H p = none ∨ B.W p) (hp : H p = some o) (ho : ¬ Owns e σ p) : Rl K B e σ (upd Z p o) H ∧ Same Z (upd Z p o) := by
  have s1 : Same Z (upd Z p o) := fun a u q => by rw [upd_ne (ne_of_none q hz)]; exact q
  refine ⟨R.grow s1 (fun a u q => ?_) (fun _ _ => trivial) (fun q u ow hq => ?_) (fun a u ha hw => ?_), s1⟩
  · by_cases ha : a = p
    · subst ha; rw [upd_same] at q; rw [hp, ← q]
    · rw [upd_ne ha] at q; exact R.sub a u q
  · have hne : q ≠ p := fun z => ho (z ▸ ow)
    rw [upd_ne hne]
    exact ⟨hq, (R.owns ow).2.1⟩
  · have hne : a ≠ p := fun z => by
      subst z
      rcases hb with hb | hb
      · rw [hb] at ha; cases ha
      · exact hw hb
    rw [upd_ne hne]
    exact ⟨R.keep a u ha hw, rfl⟩
/-- what no slot owns, young, is written -/
theorem Rl.wr (R : Rl K B e σ Z H) {p : Addr} {o : HO} (hz : Z p = none) (hb : B.H p = none ∨ B.W p) (ho : ¬ Owns e σ p) : Rl K B e σ Z (upd H p o) := by
  refine R.grow (Same.refl Z) (fun a u q => ?_) (fun _ _ => trivial) (fun q u ow hq => ?_) (fun a u ha hw => ?_)
  · have hne : a ≠ p := ne_of_none q hz
    rw [upd_ne hne]; exact R.sub a u q
  · have hne : q ≠ p := fun z => ho (z ▸ ow)
    rw [upd_ne hne]
    exact ⟨hq, (R.owns ow).2.1⟩
  · have hne : a ≠ p := fun z => by
      subst z
      rcases hb with hb | hb
      · rw [hb] at ha; cases ha
      · exact hw hb
    rw [upd_ne hne]
    exact ⟨R.keep a u ha hw, rfl⟩

/-- a slot's content is forgotten or frozen: the env alone changes -/
theorem Rl.env (R : Rl K B e σ Z H) (hl : e'.length = e.length)
    (h : ∀ (i : Nat) (s : Sl) (x : Option V), e'[i]? = some s → σ[i]? = some x → e[i]? = some s ∨ (SlOk K B Z H s x ∧ ∀ t o, s = .own t o → ∃ t' o', e[i]? = some (.own t' o'))) : Rl K B e' σ Z H := by
  have own : ∀ (i : Nat) (t : Option Nat) (o : Ob), e'[i]? = some (.own t o) → ∃ t' o', e[i]? = some (.own t' o') := fun i t o hi => by
    have hl' : i < σ.length := by rw [← R.len, ← hl]; exact (List.getElem?_eq_some_iff.mp hi).1
    rcases h i _ _ hi (List.getElem?_eq_getElem hl') with q | q
    · exact ⟨t, o, q⟩
    · exact q.2 t o rfl
  refine ⟨hl.trans R.len, fun i s x h1 h2 => ?_, fun i j t u a b hij h1 h2 => ?_, R.sub, R.zup, R.keep, R.zfr⟩
  · rcases h i s x h1 h2 with q | q
    · exact R.ok i s x q h2
    · exact q.1
  · obtain ⟨t1, o1, q1⟩ := own i t a h1
    obtain ⟨t2, o2, q2⟩ := own j u b h2
    exact R.sep i j _ _ _ _ hij q1 q2
theorem get_set {α : Type} {l : List α} {i j : Nat} {a s : α} (h : (l.set i a)[j]? = some s) : (j = i ∧ s = a) ∨ (j ≠ i ∧ l[j]? = some s) := by
  by_cases hij : j = i
  · subst hij
    by_cases hl : j < l.length
    · rw [List.getElem?_set_self hl] at h
      cases h
      exact .inl ⟨rfl, rfl⟩
    · rw [List.getElem?_eq_none (by rw [List.length_set]; omega)] at h
      cases h
  · rw [List.getElem?_set_ne (Ne.symm hij)] at h
    exact .inr ⟨hij, h⟩
/-- an own list is frozen -/
theorem Rl.freeze (R : Rl K B e σ Z H) {i : Nat} {t : Option Nat} {ds : List D} (h : e[i]? = some (.own t (.lst ds))) :
    ∃ p Z', σ[i]? = some (some (.ref p)) ∧ Same Z Z' ∧ Dq K Z' (.ref p) (.list ds) ∧ Rl K B (e.set i (.dat (.list ds))) σ Z' H := by
  obtain ⟨p, u, h1, h2, h3, ⟨vs, rfl, h4⟩, h5, h6⟩ := R.own h
  have ro : Rl K B (e.set i .un) σ Z H := by
    refine R.env (by simp) fun j s x q1 q2 => ?_
    rcases get_set q1 with ⟨rfl, rfl⟩ | ⟨hj, q⟩
    · exact .inr ⟨trivial, fun _ _ z => nomatch z⟩
    · exact .inl q
  have no : ¬ Owns (e.set i .un) σ p := fun ⟨j, t', o', q1, q2⟩ => by
    rcases get_set q1 with ⟨rfl, z⟩ | ⟨hj, q⟩
    · cases z
    · exact hj (R.owns_one q q2 h h1)
  obtain ⟨R1, s1⟩ := ro.fix h3 h5 h2 no
  have dd : Dq K (upd Z p (.lst vs)) (.ref p) (.list ds) := .lst upd_same (dpa_mono s1 h4)
  refine ⟨p, _, h1, s1, dd, ?_⟩
  refine R1.env (by simp) fun j s x q1 q2 => ?_
  rcases get_set q1 with ⟨rfl, rfl⟩ | ⟨hj, q⟩
  · refine .inr ⟨?_, fun _ _ z => nomatch z⟩
    rw [h1] at q2
    cases q2
    exact ⟨_, rfl, dd⟩
  · refine .inl ?_
    rw [List.getElem?_set_ne (Ne.symm hj)]
    exact q
/-- a name is stored: what it held is lost -/
theorem Rl.set (R : Rl K B e σ Z H) {i : Nat} {v : V} {d : D} (h : Dq K Z v d) : Rl K B (e.set i (.dat d)) (σ.set i (some v)) Z H := by
  refine ⟨by simp [R.len], fun j s x h1 h2 => ?_, fun j k t u a b hjk h1 h2 => ?_, R.sub, R.zup, R.keep, R.zfr⟩
  · rcases get_set h1 with ⟨rfl, rfl⟩ | ⟨hj, q⟩
    · rcases get_set h2 with ⟨_, rfl⟩ | ⟨hj, _⟩
      · exact ⟨v, rfl, h⟩
      · exact absurd rfl hj
    · rcases get_set h2 with ⟨rfl, _⟩ | ⟨_, q2⟩
      · exact absurd rfl hj
      · exact R.ok j s x q q2
  · rcases get_set h1 with ⟨_, z⟩ | ⟨hj, q1⟩
    · cases z
    · rcases get_set h2 with ⟨_, z⟩ | ⟨hk, q2⟩
      · cases z
      · rw [List.getElem?_set_ne (Ne.symm hj), List.getElem?_set_ne (Ne.symm hk)]
        exact R.sep j k t u a b hjk q1 q2
theorem Rl.setRaw (R : Rl K B e σ Z H) {i : Nat} {v : V} {x : Xn} (h : XvOk K Z x v) : Rl K B (e.set i (.raw x)) (σ.set i (some v)) Z H := by
  refine ⟨by simp [R.len], fun j s y h1 h2 => ?_, fun j k t u a b hjk h1 h2 => ?_, R.sub, R.zup, R.keep, R.zfr⟩
  · rcases get_set h1 with ⟨rfl, rfl⟩ | ⟨hj, q⟩
    · rcases get_set h2 with ⟨_, rfl⟩ | ⟨hj, _⟩
      · exact ⟨v, rfl, h⟩
      · exact absurd rfl hj
    · rcases get_set h2 with ⟨rfl, _⟩ | ⟨_, q2⟩
      · exact absurd rfl hj
      · exact R.ok j s y q q2
  · rcases get_set h1 with ⟨_, z⟩ | ⟨hj, q1⟩
    · cases z
    · rcases get_set h2 with ⟨_, z⟩ | ⟨hk, q2⟩
      · cases z
      · rw [List.getElem?_set_ne (Ne.symm hj), List.getElem?_set_ne (Ne.symm hk)]
        exact R.sep j k t u a b hjk q1 q2
/-- a young object that nobody owns comes to a name -/
theorem Rl.setUn (R : Rl K B e σ Z H) {i : Nat} {y : Option V} : Rl K B (e.set i .un) (σ.set i y) Z H := by
  refine ⟨by simp [R.len], fun j s x h1 h2 => ?_, fun j k t u a b hjk h1 h2 => ?_, R.sub, R.zup, R.keep, R.zfr⟩
  · rcases get_set h1 with ⟨rfl, rfl⟩ | ⟨hj, q⟩
    · trivial
    · rcases get_set h2 with ⟨rfl, _⟩ | ⟨_, q2⟩
      · exact absurd rfl hj
      · exact R.ok j s x q q2
  · rcases get_set h1 with ⟨_, z⟩ | ⟨hj, q1⟩
    · cases z
    · rcases get_set h2 with ⟨_, z⟩ | ⟨hk, q2⟩
      · cases z
      · rw [List.getElem?_set_ne (Ne.symm hj), List.getElem?_set_ne (Ne.symm hk)]
        exact R.sep j k t u a b hjk q1 q2
theorem Rl.setOwn (R : Rl K B e σ Z H) {i : Nat} {p : Addr} {o : Ob} {u : HO} (hp : H p = some u) (hz : Z p = none) (hb : B.H p = none ∨ B.W p) (hn : ¬ Owns e σ p) (ho : ObOk K Z o u) :
    Rl K B (e.set i (.own none o)) (σ.set i (some (.ref p))) Z H := by
  refine ⟨by simp [R.len], fun j s x h1 h2 => ?_, fun j k t u a b hjk h1 h2 => ?_, R.sub, R.zup, R.keep, R.zfr⟩
  · rcases get_set h1 with ⟨rfl, rfl⟩ | ⟨hj, q⟩
    · rcases get_set h2 with ⟨_, rfl⟩ | ⟨hj, _⟩
      · exact ⟨p, u, rfl, hp, hz, ho, hb, fun _ z => nomatch z⟩
      · exact absurd rfl hj
    · rcases get_set h2 with ⟨rfl, _⟩ | ⟨_, q2⟩
      · exact absurd rfl hj
      · exact R.ok j s x q q2
  · rcases get_set h1 with ⟨rfl, z⟩ | ⟨hj, q1⟩
    · rcases get_set h2 with ⟨rfl, z'⟩ | ⟨hk, q2⟩
      · exact absurd rfl hjk
      · have hl : j < σ.length := by
          have := (List.getElem?_eq_some_iff.mp h1).1
          rw [List.length_set, R.len] at this
          exact this
        rw [List.getElem?_set_self hl, List.getElem?_set_ne (Ne.symm hk)]
        intro z2
        exact hn ⟨k, _, _, q2, z2.symm⟩
    · rcases get_set h2 with ⟨rfl, z'⟩ | ⟨hk, q2⟩
      · have hl : k < σ.length := by
          have := (List.getElem?_eq_some_iff.mp h2).1
          rw [List.length_set, R.len] at this
          exact this
        rw [List.getElem?_set_self hl, List.getElem?_set_ne (Ne.symm hj)]
        intro z2
        exact hn ⟨j, _, _, q1, z2⟩
      · rw [List.getElem?_set_ne (Ne.symm hj), List.getElem?_set_ne (Ne.symm hk)]
        exact R.sep j k _ _ a b hjk q1 q2
/-- an own object is written -/
theorem Rl.write (R : Rl K B e σ Z H) {i : Nat} {t : Option Nat} {o o' : Ob} {p : Addr} {u : HO} (h : e[i]? = some (.own t o)) (h1 : σ[i]? = some (some (.ref p))) (ho : ObOk K Z o' u) :
    Rl K B (e.set i (.own t o')) σ Z (upd H p u) := by
  obtain ⟨q, w, h1', h2, h3, h4, h5, h6⟩ := R.own h
  rw [h1] at h1'
  cases h1'
  have hi : i < e.length := (List.getElem?_eq_some_iff.mp h).1
  refine ⟨by simp [R.len], fun j s x q1 q2 => ?_, fun j k t1 u1 a b hjk q1 q2 => ?_, fun a x hx => ?_, R.zup, fun a x hx hw => ?_, R.zfr⟩
  · rcases get_set q1 with ⟨rfl, rfl⟩ | ⟨hj, q⟩
    · rw [h1] at q2
      cases q2
      exact ⟨p, u, rfl, upd_same, h3, ho, h5, h6⟩
    · have z := R.ok j s x q q2
      cases s with
      | un => trivial
      | dat d => exact z
      | raw v => exact z
      | scr ds => exact z
      | own t' o'' =>
        obtain ⟨p', u', z1, z2, z3, z4, z5, z6⟩ := z
        subst z1
        have ne : p' ≠ p := fun z => hj (R.owns_one q (z ▸ q2) h h1)
        exact ⟨p', u', rfl, by rw [upd_ne ne]; exact z2, z3, z4, z5, z6⟩
  · have g : ∀ (m : Nat) (t' : Option Nat) (a : Ob), (e.set i (.own t o'))[m]? = some (.own t' a) → ∃ t2 o2, e[m]? = some (.own t2 o2) := fun m t' a hm => by
      rcases get_set hm with ⟨rfl, _⟩ | ⟨_, q⟩
      · exact ⟨_, _, h⟩
      · exact ⟨_, _, q⟩
    obtain ⟨_, _, g1⟩ := g j _ a q1
    obtain ⟨_, _, g2⟩ := g k _ b q2
    exact R.sep j k _ _ _ _ hjk g1 g2
  · rw [upd_ne (ne_of_none hx h3)]
    exact R.sub a x hx
  · have ne : a ≠ p := fun z => by
      subst z
      rcases h5 with h5 | h5
      · rw [h5] at hx; cases hx
      · exact hw h5
    rw [upd_ne ne]
    exact R.keep a x hx hw
/-- a new base, here -/
def Bs.at (B : Bs) (e : En) (σ : L2.St) (Z H : Hp) : Bs := ⟨B.io, Owns e σ, H, Z⟩
theorem Rl.rebase (R : Rl K B e σ Z H) : Rl K (B.at e σ Z H) e σ Z H := by
  refine ⟨R.len, fun i s x h1 h2 => ?_, R.sep, R.sub, Same.refl Z, fun a o h _ => h, fun _ _ _ _ => rfl⟩
  have q := R.ok i s x h1 h2
  cases s with
  | un => trivial
  | dat d => exact q
  | raw v => exact q
  | scr ds => exact q
  | own t o =>
    obtain ⟨p, u, rfl, z2, z3, z4, z5, z6⟩ := q
    exact ⟨p, u, rfl, z2, z3, z4, .inr ⟨i, t, o, h1, h2⟩, z6⟩
theorem Rl.unbase {e1 : En} {σ1 : L2.St} {Z1 H1 : Hp} (R : Rl K B e σ Z H) (R1 : Rl K (B.at e σ Z H) e1 σ1 Z1 H1) : Rl K B e1 σ1 Z1 H1 := by
  have nw : ∀ a o, B.H a = some o → ¬ B.W a → ¬ Owns e σ a := fun a o h1 h2 h3 => by
    rcases (R.owns h3).2.2 with h | h
    · rw [h] at h1; cases h1
    · exact h2 h
  refine ⟨R1.len, fun i s x h1 h2 => ?_, R1.sep, R1.sub, R.zup.trans R1.zup, fun a o h1 h2 => R1.keep a o (R.keep a o h1 h2) (nw a o h1 h2), fun a o h1 h2 => (R1.zfr a o (R.keep a o h1 h2) (nw a o h1 h2)).trans (R.zfr a o h1 h2)⟩
  have q := R1.ok i s x h1 h2
  cases s with
  | un => trivial
  | dat d => exact q
  | raw v => exact q
  | scr ds => exact q
  | own t o =>
    obtain ⟨p, u, rfl, z2, z3, z4, z5, z6⟩ := q
    refine ⟨p, u, rfl, z2, z3, z4, ?_, z6⟩
    rcases z5 with z5 | z5
    · cases hb : B.H p with
      | none => exact .inl rfl
      | some o =>
        refine .inr ?_
        by_cases hw : B.W p
        · exact hw
        · have := R.keep p o hb hw
          have z5' : H p = none := z5
          rw [this] at z5'
          cases z5'
    · exact (R.owns z5).2.2.elim .inl .inr
/-- what H has and no slot owns is kept, and young in the frozen part no more -/
theorem Rl.kept {e1 : En} {σ1 : L2.St} {Z1 H1 : Hp} (R1 : Rl K (B.at e σ Z H) e1 σ1 Z1 H1) {a : Addr} {o : HO} (h : H a = some o) (hn : ¬ Owns e σ a) : H1 a = some o ∧ Z1 a = Z a := ⟨R1.keep a o h hn, R1.zfr a o h hn⟩
theorem Rl.young {e1 : En} {σ1 : L2.St} {Z1 H1 : Hp} (R1 : Rl K (B.at e σ Z H) e1 σ1 Z1 H1) {a : Addr} {o : HO} (h : H a = some o) (hn : ¬ Owns e σ a) : ¬ Owns e1 σ1 a := fun q => by
  rcases (R1.owns q).2.2 with z | z
  · have z' : H a = none := z
    rw [h] at z'; cases z'
  · exact hn z
end
end G
set_option Elab.async false
set_option linter.all false
set_option maxRecDepth 100000
namespace G
open PySem PySem.Spec PyProof.Rows L2

/-! ### what comes of a piece of code -/
inductive R (α : Type) where
  | ok (a : α) (e : En)
  | ex (x : Xn) (e : En)
  | bad
def R.bind {α β : Type} (r : R α) (k : α → En → R β) : R β := match r with
  | .ok a e => k a e
  | .ex x e => .ex x e
  | .bad => .bad
@[simp] theorem R.bind_ok {α β : Type} (a : α) (e : En) (k : α → En → R β) : (R.ok a e).bind k = k a e := rfl
@[simp] theorem R.bind_ex {α β : Type} (x : Xn) (e : En) (k : α → En → R β) : (R.ex x e).bind k = .ex x e := rfl
@[simp] theorem R.bind_bad {α β : Type} (k : α → En → R β) : R.bad.bind k = .bad := rfl
def R.noex {α : Type} (r : R α) : R α := match r with
  | .ex _ _ => .bad
  | r => r
def R.lift {α : Type} (o : Option α) (e : En) : R α := match o with
  | some a => .ok a e
  | none => .bad
@[simp] theorem R.lift_some {α : Type} (a : α) (e : En) : R.lift (some a) e = .ok a e := rfl
@[simp] theorem R.lift_none {α : Type} (e : En) : R.lift (none : Option α) e = .bad := rfl
@[simp] theorem R.noex_ok {α : Type} (a : α) (e : En) : (R.ok a e).noex = .ok a e := rfl

def XnOk (K : Frag) (mg : Str → Option Value) (Z H : Hp) (x : Xn) (c : Value) (dd : Option Addr) : Prop := PySem.W.nsIn K mainGlobals x.cls = some (some c) ∧ XfOk K Z x.fs dd

section
variable {α β γ δ : Type}
def Pg (K : Frag) (mg : Str → Option Value) (W : WX) (B : Bs) (σ : L2.St) (Z : Hp) (vr : Hp → β → α → Prop) (r : R α) (Q : β → Hp → Prop) : Prop := match r with
  | .ok a e => ∀ b Z' H', Same Z Z' → Rl K B e σ Z' H' → vr Z' b a → Q b H'
  | .ex x e => ∀ c dd Z' H', Same Z Z' → Rl K B e σ Z' H' → XnOk K mg Z' H' x c dd → W c dd σ H'
  | .bad => False
def Rg (K : Frag) (mg : Str → Option Value) (W : WX) (vr : Hp → β → α → Prop) (p : En → R α) : L2.St → Hp → (β → Hp → Prop) → Prop := fun σ H Q =>
  ∃ B e Z, Rl K B e σ Z H ∧ Pg K mg W B σ Z vr (p e) Q
variable {K : Frag} {mg : Str → Option Value} {W : WX} {B : Bs} {σ : L2.St} {Z Z' H : Hp} {e : En}
theorem Pg.up {vr : Hp → β → α → Prop} {r : R α} {Q : β → Hp → Prop} (s : Same Z Z') (h : Pg K mg W B σ Z vr r Q) : Pg K mg W B σ Z' vr r Q := by
  cases r with
  | ok a e => exact fun b Z1 H1 s1 R1 v => h b Z1 H1 (s.trans s1) R1 v
  | ex x e => exact fun c dd Z1 H1 s1 R1 v => h c dd Z1 H1 (s.trans s1) R1 v
  | bad => exact h
theorem Pg.imp {vr : Hp → β → α → Prop} {r : R α} {Q Q' : β → Hp → Prop} (f : ∀ b H, Q b H → Q' b H) (h : Pg K mg W B σ Z vr r Q) : Pg K mg W B σ Z vr r Q' := by
  cases r with
  | ok a e => exact fun b Z1 H1 s1 R1 v => f _ _ (h b Z1 H1 s1 R1 v)
  | ex x e => exact h
  | bad => exact h
theorem rg_bind {vr : Hp → β → α → Prop} {vr2 : Hp → δ → γ → Prop} {p : En → R α} {k : α → En → R γ} {Q : δ → Hp → Prop} {Q' : β → Hp → Prop} (R0 : Rl K B e σ Z H) (h : Pg K mg W B σ Z vr2 ((p e).bind k) Q)
    (f : ∀ x Z1 e1 a H1, Same Z Z1 → Rl K B e1 σ Z1 H1 → vr Z1 x a → Pg K mg W B σ Z1 vr2 (k a e1) Q → Q' x H1) : Rg K mg W vr p σ H Q' := by
  refine ⟨B, e, Z, R0, ?_⟩
  cases hp : p e with
  | ok a e1 =>
    rw [hp] at h
    exact fun b Z1 H1 s1 R1 v => f b Z1 e1 a H1 s1 R1 v (Pg.up s1 h)
  | ex x e1 =>
    rw [hp] at h
    exact h
  | bad =>
    rw [hp] at h
    exact h
/-- the last piece -/
theorem rg_last {vr : Hp → β → α → Prop} {p : En → R α} {Q : β → Hp → Prop} (R0 : Rl K B e σ Z H) (h : Pg K mg W B σ Z vr (p e) Q) : Rg K mg W vr p σ H Q := ⟨B, e, Z, R0, h⟩
/-- new frozen objects alone -/
structure Nw (Z H Z' H' : Hp) : Prop where
  z : Same Z Z'
  h : Same H H'
  s : Same Z' H'
  f : ∀ a o, H a = some o → Z' a = Z a
theorem Nw.refl (s : Same Z H) : Nw Z H Z H := ⟨Same.refl _, Same.refl _, s, fun _ _ _ => rfl⟩
theorem Nw.new {p : Addr} {o : HO} (s : Same Z H) (h : H p = none) : Nw Z H (upd Z p o) (upd H p o) := by
  have zn : Z p = none := by
    cases q : Z p with
    | none => rfl
    | some u => rw [s p u q] at h; cases h
  refine ⟨fun a u q => ?_, fun a u q => ?_, fun a u q => ?_, fun a u q => ?_⟩
  · rw [upd_ne (ne_of_none q zn)]; exact q
  · rw [upd_ne (ne_of_none q h)]; exact q
  · by_cases ha : a = p
    · subst ha; rw [upd_same] at q ⊢; exact q
    · rw [upd_ne ha] at q ⊢; exact s a u q
  · rw [upd_ne (ne_of_none q h)]
theorem Nw.trans {Z1 H1 Z2 H2 : Hp} (a : Nw Z H Z1 H1) (b : Nw Z1 H1 Z2 H2) : Nw Z H Z2 H2 := ⟨a.z.trans b.z, a.h.trans b.h, b.s, fun x o h => (b.f x o (a.h x o h)).trans (a.f x o h)⟩
theorem Rl.nw {Z' H' : Hp} (R : Rl K B e σ Z H) (n : Nw Z H Z' H') : Rl K B e σ Z' H' :=
  R.grow n.z n.s (fun _ _ => trivial) (fun p u ow hp => ⟨n.h p u hp, (n.f p u hp).trans (R.owns ow).2.1⟩) fun a o ha hw => ⟨n.h a o (R.keep a o ha hw), n.f a o (R.keep a o ha hw)⟩
end

/-! ### relations of values -/
abbrev vD (K : Frag) : Hp → V → D → Prop := fun Z v d => Dq K Z v d
abbrev vB : Hp → Bool → Bool → Prop := fun _ a b => a = b
abbrev vA (K : Frag) : Hp → List V → List D → Prop := fun Z vs ds => DqAll K Z vs ds
abbrev vO : Hp → Option Int → Option Int → Prop := fun _ a b => a = b

abbrev XE := En → R D
abbrev XT := En → R Bool
abbrev XA := En → R (List D)

abbrev RE (K : Frag) (mg : Str → Option Value) (W : WX) (p : XE) : TE := Rg K mg W (vD K) p
abbrev RT (K : Frag) (mg : Str → Option Value) (W : WX) (p : XT) : TT := Rg K mg W vB p
abbrev RA (K : Frag) (mg : Str → Option Value) (W : WX) (p : XA) : TA := Rg K mg W (vA K) p
abbrev SE (X : Cx) (W : WX) (e : Expr) (p : XE) : Prop := PE X e (RE X.K X.mg W p)
abbrev ST (X : Cx) (W : WX) (e : Expr) (p : XT) : Prop := PT X e (RT X.K X.mg W p)
abbrev SW (X : Cx) (W : WX) (e : Expr) (p : XT) : Prop := PW X e (RT X.K X.mg W p)
abbrev SA (X : Cx) (W : WX) (es : List Expr) (p : XA) : Prop := PA X es (RA X.K X.mg W p)

section
variable {X : Cx} {W : WX}
theorem PE.imp {e : Expr} {t t' : TE} (h : PE X e t) (f : ∀ σ H Q, t' σ H Q → t σ H Q) : PE X e t' := ⟨fun pins s σ H Q I hq => h.run pins s σ H Q I (f σ H Q hq)⟩
theorem PT.imp {e : Expr} {t t' : TT} (h : PT X e t) (f : ∀ σ H Q, t' σ H Q → t σ H Q) : PT X e t' := ⟨fun pins s σ H Q I hq => h.run pins s σ H Q I (f σ H Q hq)⟩
theorem PW.imp {e : Expr} {t t' : TT} (h : PW X e t) (f : ∀ σ H Q, t' σ H Q → t σ H Q) : PW X e t' := ⟨fun wh pins s σ H Q I hq => h.run wh pins s σ H Q I (f σ H Q hq)⟩
theorem PA.imp {e : List Expr} {t t' : TA} (h : PA X e t) (f : ∀ σ H Q, t' σ H Q → t σ H Q) : PA X e t' := ⟨fun pos pins s σ H Q I hq => h.run pos pins s σ H Q I (f σ H Q hq)⟩
theorem PO.imp {e : Option Expr} {t t' : TO} (h : PO X e t) (f : ∀ σ H Q, t' σ H Q → t σ H Q) : PO X e t' := ⟨fun pins s σ H Q I hq => h.run pins s σ H Q I (f σ H Q hq)⟩

/-! ### names, constants -/
def eVar (i : Nat) : XE := fun e => match e[i]? with
  | some (.dat d) => .ok d e
  | some (.own _ (.lst ds)) => .ok (.list ds) (e.set i (.dat (.list ds)))
  | _ => .bad
theorem se_var {i : Nat} {x : Str} {pos : Pos} (h : PE X (.Name x pos) (tVar i)) : SE X W (.Name x pos) (eVar i) := by
  refine PE.imp h fun σ H Q ⟨B, e, Z, R0, hq⟩ => ?_
  unfold eVar at hq
  split at hq
  · rename_i d he
    obtain ⟨v, e1, e2⟩ := R0.dat he
    exact ⟨v, e1, hq v Z H (Same.refl Z) R0 e2⟩
  · rename_i t ds he
    obtain ⟨p, Z', e1, e2, e3, e4⟩ := R0.freeze he
    exact ⟨_, e1, hq _ Z' H e2 e4 e3⟩
  · exact hq.elim
def eC (d : D) : XE := fun e => .ok d e
theorem se_c {x : Expr} {v : V} {d : D} (h : PE X x (tC v)) (hd : ∀ Z, Dq X.K Z v d) : SE X W x (eC d) :=
  PE.imp h fun σ H Q ⟨B, e, Z, R0, hq⟩ => hq v Z H (Same.refl Z) R0 (hd Z)
theorem se_int {i : Int} {j pos} : SE X W (.Constant (.int i) j pos) (eC (.int i)) := se_c pe_int fun _ => .int i
theorem se_bl {b j pos} : SE X W (.Constant (.bool b) j pos) (eC (.bool b)) := se_c pe_bl fun _ => .bl b
theorem se_non {j pos} : SE X W (.Constant .none j pos) (eC .none) := se_c pe_non fun _ => .non
theorem se_str {x j pos} : SE X W (.Constant (.str x) j pos) (eC (.str x)) := se_c pe_str fun _ => .str x

/-! ### operations by data: g tells the answer, new frozen objects may come -/
def Ok2 (K : Frag) (r : R2) (g : D → D → Option D) : Prop := ∀ Z H x y d1 d2 d (Q : VK), Same Z H → Dq K Z x d1 → Dq K Z y d2 → g d1 d2 = some d → (∀ v Z' H', Nw Z H Z' H' → Dq K Z' v d → Q v H') → r x y H Q
def OkC (K : Frag) (r : List V → Hp → VK → Prop) (g : List D → Option D) : Prop := ∀ Z H xs ds d (Q : VK), Same Z H → DqAll K Z xs ds → g ds = some d → (∀ v Z' H', Nw Z H Z' H' → Dq K Z' v d → Q v H') → r xs H Q
def OkM (K : Frag) (r : V → List V → Hp → VK → Prop) (g : D → List D → Option D) : Prop := ∀ Z H x xs c ds d (Q : VK), Same Z H → Dq K Z x c → DqAll K Z xs ds → g c ds = some d → (∀ v Z' H', Nw Z H Z' H' → Dq K Z' v d → Q v H') → r x xs H Q

def eOp (g : D → D → Option D) (p q : XE) : XE := fun e => (p e).bind fun a e1 => (q e1).bind fun b e2 => R.lift (g a b) e2
theorem pg_lift {K : Frag} {mg : Str → Option Value} {B : Bs} {σ : L2.St} {Z H : Hp} {e : En} {o : Option D} {Q : VK} (R0 : Rl K B e σ Z H) (h : Pg K mg W B σ Z (vD K) (R.lift o e) Q) : ∃ d, o = some d ∧ ∀ v Z' H', Nw Z H Z' H' → Dq K Z' v d → Q v H' := by
  cases o with
  | none => exact h.elim
  | some d => exact ⟨d, rfl, fun v Z' H' n hd => h v Z' H' n.z (R0.nw n) hd⟩
theorem se_tOp {x : Expr} {r : R2} {g : D → D → Option D} {p q : XE} (ok : Ok2 X.K r g) (h : PE X x (tOp r (RE X.K X.mg W p) (RE X.K X.mg W q))) : SE X W x (eOp g p q) := by
  refine PE.imp h fun σ H Q ⟨B, e, Z, R0, hq⟩ => ?_
  refine rg_bind R0 hq fun v1 Z1 e1 d1 H1 s1 R1 D1 h1 => ?_
  refine rg_bind R1 h1 fun v2 Z2 e2 d2 H2 s2 R2 D2 h2 => ?_
  obtain ⟨d, ed, k⟩ := pg_lift R2 h2
  exact ok Z2 H2 v1 v2 d1 d2 d Q R2.sub (dp_mono s2 D1) D2 ed k
theorem se_op {a b : Expr} {pos : Pos} {op : Operator} {r : R2} {g : D → D → Option D} {p q : XE} (ho : OpR X (binaryOp op) r) (ok : Ok2 X.K r g) (ha : SE X W a p) (hb : SE X W b q) : SE X W (.BinOp a op b pos) (eOp g p q) := se_tOp ok (pe_op ho ha hb)
theorem se_cmp {a b : Expr} {pos : Pos} {op : CmpOp} {r : R2} {g : D → D → Option D} {p q : XE} (ho : OpR X (compareOp op) r) (ok : Ok2 X.K r g) (ha : SE X W a p) (hb : SE X W b q) (hm : behindInMarks op b = false) : SE X W (.Compare a [op] [b] pos) (eOp g p q) := se_tOp ok (pe_cmpR ho ha hb hm)
theorem se_ix {a b : Expr} {pos : Pos} {r : R2} {g : D → D → Option D} {p q : XE} (ho : IxR X r) (ok : Ok2 X.K r g) (ha : SE X W a p) (hb : SE X W b q) (hs : PlainIx b) : SE X W (.Subscript a b pos) (eOp g p q) := se_tOp ok (pe_ix ho ha hb hs)
/-- an expression as a test -/
def tOf (p : XE) : XT := fun e => (p e).bind fun d e1 => match d with
  | .bool b => .ok b e1
  | _ => .bad
theorem st_B {x : Expr} {p : XE} (h : PT X x (fun σ H Q => RE X.K X.mg W p σ H fun v H1 => ∃ c, v = .bl c ∧ Q c H1)) : ST X W x (tOf p) := by
  refine PT.imp h fun σ H Q ⟨B, e, Z, R0, hq⟩ => ?_
  refine rg_bind R0 hq fun v1 Z1 e1 d1 H1 s1 R1 D1 h1 => ?_
  cases D1 with
  | bl b => exact ⟨b, rfl, h1 b Z1 H1 (Same.refl _) R1 rfl⟩
  | non => exact h1.elim
  | int _ => exact h1.elim
  | str _ => exact h1.elim
  | lst _ _ => exact h1.elim
  | tup _ _ => exact h1.elim
theorem st_val {x : Expr} {p : XE} (h : SE X W x p) (he : ∀ whole, isTrue x X.env whole = (do let v ← whole; standAt x.pos; holding [v] (truthy v)) := by intro _; rfl) : ST X W x (tOf p) := st_B (pt_val h he)
theorem st_cmp {a b : Expr} {pos : Pos} {op : CmpOp} {r : R2} {g : D → D → Option D} {p q : XE} (ho : OpR X (compareOp op) r) (ok : Ok2 X.K r g) (ha : SE X W a p) (hb : SE X W b q) (hm : behindInMarks op b = false) : ST X W (.Compare a [op] [b] pos) (tOf (eOp g p q)) := by
  refine st_B (PT.imp (pt_cmpR ho ha hb hm) fun σ H Q ⟨B, e, Z, R0, hq⟩ => ?_)
  refine rg_bind R0 hq fun v1 Z1 e1 d1 H1 s1 R1 D1 h1 => ?_
  refine rg_bind R1 h1 fun v2 Z2 e2 d2 H2 s2 R2 D2 h2 => ?_
  obtain ⟨d, ed, k⟩ := pg_lift R2 h2
  exact ok Z2 H2 v1 v2 d1 d2 d _ R2.sub (dp_mono s2 D1) D2 ed k
/-- truth of any value -/
def dTru : D → Option Bool
  | .none => some false
  | .bool b => some b
  | .int i => some (i != 0)
  | .str x => if x.length ≤ sizeLine then some (x.length != 0) else none
  | .list xs => some (!xs.isEmpty)
  | .tuple xs => some (!xs.isEmpty)
  | .dict _ => none
def tTru (p : XE) : XT := fun e => (p e).bind fun d e1 => R.lift (dTru d) e1

/-! ### and, or, not, if -/
def tAnd (p q : XT) : XT := fun e => (p e).bind fun b e1 => if b = true then q e1 else .ok false e1
def tOr (p q : XT) : XT := fun e => (p e).bind fun b e1 => if b = true then .ok true e1 else q e1
def tNot (p : XT) : XT := fun e => (p e).bind fun b e1 => .ok (!b) e1
theorem pt_not' {a : Expr} {pos : Pos} {p : XT} (h : ST X W a p) : ST X W (.UnaryOp .Not a pos) (tNot p) := by
  refine PT.imp (pt_not h) fun σ H Q ⟨B, e, Z, R0, hq⟩ => ?_
  refine rg_bind R0 hq fun v1 Z1 e1 d1 H1 s1 R1 D1 h1 => ?_
  subst D1
  exact h1 _ Z1 H1 (Same.refl _) R1 rfl
theorem sw_and1 {a : Expr} {pos : Pos} {p : XT} (h : ST X W a p) : SW X W (.BoolOp .And [a] pos) p := pw_and1 h
theorem sw_or1 {a : Expr} {pos : Pos} {p : XT} (h : ST X W a p) : SW X W (.BoolOp .Or [a] pos) p := pw_or1 h
theorem sw_and {a b : Expr} {rest : List Expr} {pos : Pos} {p q : XT} (ha : ST X W a p) (hb : SW X W (.BoolOp .And (b :: rest) pos) q) : SW X W (.BoolOp .And (a :: b :: rest) pos) (tAnd p q) := by
  refine PW.imp (pw_and ha hb) fun σ H Q ⟨B, e, Z, R0, hq⟩ => ?_
  refine rg_bind R0 hq fun v1 Z1 e1 d1 H1 s1 R1 D1 h1 => ?_
  subst D1
  cases v1 with
  | true => exact ⟨B, e1, Z1, R1, h1⟩
  | false => exact h1 _ Z1 H1 (Same.refl _) R1 rfl
theorem sw_or {a b : Expr} {rest : List Expr} {pos : Pos} {p q : XT} (ha : ST X W a p) (hb : SW X W (.BoolOp .Or (b :: rest) pos) q) : SW X W (.BoolOp .Or (a :: b :: rest) pos) (tOr p q) := by
  refine PW.imp (pw_or ha hb) fun σ H Q ⟨B, e, Z, R0, hq⟩ => ?_
  refine rg_bind R0 hq fun v1 Z1 e1 d1 H1 s1 R1 D1 h1 => ?_
  subst D1
  cases v1 with
  | true => exact h1 _ Z1 H1 (Same.refl _) R1 rfl
  | false => exact ⟨B, e1, Z1, R1, h1⟩
theorem st_bool {x : Expr} {p : XT} (h : SW X W x p) : ST X W x p := h.pt
def eAnd (p q : XE) : XE := fun e => (p e).bind fun d e1 => match d with
  | .bool b => if b = true then q e1 else .ok (.bool false) e1
  | _ => .bad
def eOr (p q : XE) : XE := fun e => (p e).bind fun d e1 => match d with
  | .bool b => if b = true then .ok (.bool true) e1 else q e1
  | _ => .bad
def eNot (p : XE) : XE := fun e => (p e).bind fun d e1 => match d with
  | .bool b => .ok (.bool (!b)) e1
  | _ => .bad
theorem se_one {a : Expr} {op} {pos : Pos} {p : XE} (h : SE X W a p) : SE X W (.BoolOp op [a] pos) p := pe_one h
theorem se_and {a b : Expr} {rest : List Expr} {pos : Pos} {p q : XE} (ha : SE X W a p) (hb : SE X W (.BoolOp .And (b :: rest) pos) q) : SE X W (.BoolOp .And (a :: b :: rest) pos) (eAnd p q) := by
  refine PE.imp (pe_and ha hb) fun σ H Q ⟨B, e, Z, R0, hq⟩ => ?_
  refine rg_bind R0 hq fun v1 Z1 e1 d1 H1 s1 R1 D1 h1 => ?_
  cases D1 with
  | bl b =>
    refine ⟨b, rfl, ?_⟩
    cases b with
    | true => exact ⟨B, e1, Z1, R1, h1⟩
    | false => exact h1 _ Z1 H1 (Same.refl _) R1 (.bl false)
  | non => exact h1.elim
  | int _ => exact h1.elim
  | str _ => exact h1.elim
  | lst _ _ => exact h1.elim
  | tup _ _ => exact h1.elim
theorem se_or {a b : Expr} {rest : List Expr} {pos : Pos} {p q : XE} (ha : SE X W a p) (hb : SE X W (.BoolOp .Or (b :: rest) pos) q) : SE X W (.BoolOp .Or (a :: b :: rest) pos) (eOr p q) := by
  refine PE.imp (pe_or ha hb) fun σ H Q ⟨B, e, Z, R0, hq⟩ => ?_
  refine rg_bind R0 hq fun v1 Z1 e1 d1 H1 s1 R1 D1 h1 => ?_
  cases D1 with
  | bl b =>
    refine ⟨b, rfl, ?_⟩
    cases b with
    | true => exact h1 _ Z1 H1 (Same.refl _) R1 (.bl true)
    | false => exact ⟨B, e1, Z1, R1, h1⟩
  | non => exact h1.elim
  | int _ => exact h1.elim
  | str _ => exact h1.elim
  | lst _ _ => exact h1.elim
  | tup _ _ => exact h1.elim
theorem se_not {a : Expr} {pos : Pos} {p : XE} (ha : SE X W a p) : SE X W (.UnaryOp .Not a pos) (eNot p) := by
  refine PE.imp (pe_not ha) fun σ H Q ⟨B, e, Z, R0, hq⟩ => ?_
  refine rg_bind R0 hq fun v1 Z1 e1 d1 H1 s1 R1 D1 h1 => ?_
  cases D1 with
  | bl b => exact ⟨b, rfl, h1 _ Z1 H1 (Same.refl _) R1 (.bl _)⟩
  | non => exact h1.elim
  | int _ => exact h1.elim
  | str _ => exact h1.elim
  | lst _ _ => exact h1.elim
  | tup _ _ => exact h1.elim
def eIf (t : XT) (p q : XE) : XE := fun e => (t e).bind fun b e1 => if b = true then p e1 else q e1
theorem se_if {c a b : Expr} {pos : Pos} {t : XT} {p q : XE} (hc : ST X W c t) (ha : SE X W a p) (hb : SE X W b q) : SE X W (.IfExp c a b pos) (eIf t p q) := by
  refine PE.imp (pe_ifExp hc ha hb) fun σ H Q ⟨B, e, Z, R0, hq⟩ => ?_
  refine rg_bind R0 hq fun v1 Z1 e1 d1 H1 s1 R1 D1 h1 => ?_
  subst D1
  cases v1 with
  | true => exact ⟨B, e1, Z1, R1, h1⟩
  | false => exact ⟨B, e1, Z1, R1, h1⟩
/-- is None -/
def dIsN : D → Bool
  | .none => true
  | _ => false
def eIsN (p : XE) : XE := fun e => (p e).bind fun d e1 => .ok (.bool (dIsN d)) e1
def eNotN (p : XE) : XE := fun e => (p e).bind fun d e1 => .ok (.bool (!dIsN d)) e1
theorem isN_of {K : Frag} {Z : Hp} {v : V} {d : D} (h : Dq K Z v d) : decide (v = .non) = dIsN d := by
  cases h <;> rfl
theorem se_isN {a : Expr} {j pos pos'} {p : XE} (ha : SE X W a p) : SE X W (.Compare a [.Is] [.Constant .none j pos'] pos) (eIsN p) := by
  refine PE.imp (pe_cmp (pc_isN ha) rfl) fun σ H Q ⟨B, e, Z, R0, hq⟩ => ?_
  refine rg_bind R0 hq fun v1 Z1 e1 d1 H1 s1 R1 D1 h1 => ?_
  rw [isN_of D1]
  exact h1 _ Z1 H1 (Same.refl _) R1 (.bl _)
theorem se_notN {a : Expr} {j pos pos'} {p : XE} (ha : SE X W a p) : SE X W (.Compare a [.IsNot] [.Constant .none j pos'] pos) (eNotN p) := by
  refine PE.imp (pe_cmp (pc_notN ha) rfl) fun σ H Q ⟨B, e, Z, R0, hq⟩ => ?_
  refine rg_bind R0 hq fun v1 Z1 e1 d1 H1 s1 R1 D1 h1 => ?_
  rw [isN_of D1]
  exact h1 _ Z1 H1 (Same.refl _) R1 (.bl _)
theorem st_isN {a : Expr} {j pos pos'} {p : XE} (ha : SE X W a p) : ST X W (.Compare a [.Is] [.Constant .none j pos'] pos) (tOf (eIsN p)) := by
  refine st_B (PT.imp (pt_cmp (pc_isN ha) rfl) fun σ H Q ⟨B, e, Z, R0, hq⟩ => ?_)
  refine rg_bind R0 hq fun v1 Z1 e1 d1 H1 s1 R1 D1 h1 => ?_
  rw [isN_of D1]
  exact h1 _ Z1 H1 (Same.refl _) R1 (.bl _)
theorem st_notN {a : Expr} {j pos pos'} {p : XE} (ha : SE X W a p) : ST X W (.Compare a [.IsNot] [.Constant .none j pos'] pos) (tOf (eNotN p)) := by
  refine st_B (PT.imp (pt_cmp (pc_notN ha) rfl) fun σ H Q ⟨B, e, Z, R0, hq⟩ => ?_)
  refine rg_bind R0 hq fun v1 Z1 e1 d1 H1 s1 R1 D1 h1 => ?_
  rw [isN_of D1]
  exact h1 _ Z1 H1 (Same.refl _) R1 (.bl _)

/-! ### argument lists, displays, built-in calls -/
def aNil : XA := fun e => .ok [] e
def aCons (p : XE) (q : XA) : XA := fun e => (p e).bind fun d e1 => (q e1).bind fun ds e2 => .ok (d :: ds) e2
theorem sa_nil : SA X W [] aNil := PA.imp pa_nil fun σ H Q ⟨B, e, Z, R0, hq⟩ => hq [] Z H (Same.refl _) R0 .nil
theorem sa_cons {x : Expr} {xs : List Expr} {p : XE} {q : XA} (ha : SE X W x p) (hr : SA X W xs q) (hs : starEach (x :: xs) X.env = (false, eval x X.env) :: starEach xs X.env := by rfl) : SA X W (x :: xs) (aCons p q) := by
  refine PA.imp (pa_cons ha hr hs) fun σ H Q ⟨B, e, Z, R0, hq⟩ => ?_
  refine rg_bind R0 hq fun v1 Z1 e1 d1 H1 s1 R1 D1 h1 => ?_
  refine rg_bind R1 h1 fun v2 Z2 e2 d2 H2 s2 R2 D2 h2 => ?_
  exact h2 _ Z2 H2 (Same.refl _) R2 (.cons (dp_mono s2 D1) D2)
def eCall (g : List D → Option D) (q : XA) : XE := fun e => (q e).bind fun ds e1 => R.lift (g ds) e1
theorem se_tCB {x : Expr} {r : List V → Hp → VK → Prop} {g : List D → Option D} {q : XA} (ok : OkC X.K r g) (h : PE X x (tCB r (RA X.K X.mg W q))) : SE X W x (eCall g q) := by
  refine PE.imp h fun σ H Q ⟨B, e, Z, R0, hq⟩ => ?_
  refine rg_bind R0 hq fun v1 Z1 e1 d1 H1 s1 R1 D1 h1 => ?_
  obtain ⟨d, ed, k⟩ := pg_lift R1 h1
  exact ok Z1 H1 v1 d1 d Q R1.sub D1 ed k
def gTup (ds : List D) : Option D := if ds.length ≤ sizeLine then some (.tuple ds) else none
def gLst (ds : List D) : Option D := if ds.length ≤ sizeLine then some (.list ds) else none
theorem se_tup {es : List Expr} {k} {pos : Pos} {q : XA} (h : SA X W es q) : SE X W (.Tuple es k pos) (eCall gTup q) := by
  refine PE.imp (pe_tup h) fun σ H Q ⟨B, e, Z, R0, hq⟩ => ?_
  refine rg_bind R0 hq fun v1 Z1 e1 d1 H1 s1 R1 D1 h1 => ?_
  obtain ⟨d, ed, k⟩ := pg_lift R1 h1
  unfold gTup at ed
  split at ed
  · cases ed
    refine ⟨by rw [dpa_len D1]; assumption, fun p hp => ?_⟩
    have n := Nw.new (o := .tup v1) R1.sub hp
    exact k _ _ _ n (.tup (.inl (.inl upd_same)) (dpa_mono n.z D1))
  · cases ed
theorem se_lst {es : List Expr} {pos : Pos} {q : XA} (h : SA X W es q) : SE X W (.List es pos) (eCall gLst q) := by
  refine PE.imp (pe_lst h) fun σ H Q ⟨B, e, Z, R0, hq⟩ => ?_
  refine rg_bind R0 hq fun v1 Z1 e1 d1 H1 s1 R1 D1 h1 => ?_
  obtain ⟨d, ed, k⟩ := pg_lift R1 h1
  unfold gLst at ed
  split at ed
  · cases ed
    refine ⟨by rw [dpa_len D1]; assumption, fun p hp => ?_⟩
    have n := Nw.new (o := .lst v1) R1.sub hp
    exact k _ _ _ n (.lst upd_same (dpa_mono n.z D1))
  · cases ed
/-- a built-in type's method -/
def eMeth (ty : D → Bool) (g : D → List D → Option D) (p : XE) (q : XA) : XE := fun e => (p e).bind fun c e1 => if ty c = true then (q e1).bind fun ds e2 => R.lift (g c ds) e2 else .bad
def tyD (K : Frag) (T : String) (ty : D → Bool) : Prop := ∀ Z H v d, Same Z H → Dq K Z v d → ty d = true → tyV K T v H
theorem se_tBM {x : Expr} {T : String} {r : V → List V → Hp → VK → Prop} {g : D → List D → Option D} {ty : D → Bool} {p : XE} {q : XA} (ht : tyD X.K T ty) (ok : OkM X.K r g)
    (h : PE X x (tBM X.K T r (RE X.K X.mg W p) (RA X.K X.mg W q))) : SE X W x (eMeth ty g p q) := by
  refine PE.imp h fun σ H Q ⟨B, e, Z, R0, hq⟩ => ?_
  refine rg_bind R0 hq fun v1 Z1 e1 d1 H1 s1 R1 D1 h1 => ?_
  by_cases hty : ty d1 = true
  · rw [if_pos hty] at h1
    refine ⟨ht Z1 H1 v1 d1 R1.sub D1 hty, ?_⟩
    refine rg_bind R1 h1 fun v2 Z2 e2 d2 H2 s2 R2 D2 h2 => ?_
    obtain ⟨d, ed, k⟩ := pg_lift R2 h2
    exact ok Z2 H2 v1 v2 d1 d2 d Q R2.sub (dp_mono s2 D1) D2 ed k
  · rw [if_neg hty] at h1
    exact h1.elim
theorem se_tBM0 {x : Expr} {T : String} {r : V → List V → Hp → VK → Prop} {g : D → List D → Option D} {ty : D → Bool} {p : XE} (ht : tyD X.K T ty) (ok : OkM X.K r g)
    (h : PE X x (tBM0 X.K T r (RE X.K X.mg W p))) : SE X W x (eMeth ty g p aNil) := by
  refine PE.imp h fun σ H Q ⟨B, e, Z, R0, hq⟩ => ?_
  refine rg_bind R0 hq fun v1 Z1 e1 d1 H1 s1 R1 D1 h1 => ?_
  by_cases hty : ty d1 = true
  · rw [if_pos hty] at h1
    refine ⟨ht Z1 H1 v1 d1 R1.sub D1 hty, ?_⟩
    obtain ⟨d, ed, k⟩ := pg_lift R1 (h1 : Pg X.K X.mg W B σ Z1 (vD X.K) (R.lift (g d1 []) e1) Q)
    exact ok Z1 H1 v1 [] d1 [] d Q R1.sub D1 .nil ed k
  · rw [if_neg hty] at h1
    exact h1.elim
def isStr : D → Bool | .str _ => true | _ => false
def isLst : D → Bool | .list _ => true | _ => false
theorem tyD_str {K : Frag} : tyD K "str" isStr := fun Z H v d s h t => by
  cases h with
  | str x => rfl
  | _ => cases t
theorem tyD_lst {K : Frag} : tyD K "list" isLst := fun Z H v d s h t => by
  cases h with
  | lst q a => exact .inl ⟨rfl, _, .inl (.inl (s _ _ q))⟩
  | _ => cases t

/-! ### slices -/
abbrev XO := En → R (Option Int)
abbrev RO (K : Frag) (mg : Str → Option Value) (W : WX) (p : XO) : TO := Rg K mg W vO p
abbrev SO (X : Cx) (W : WX) (e : Option Expr) (p : XO) : Prop := PO X e (RO X.K X.mg W p)
def oNone : XO := fun e => .ok none e
def oSome (p : XE) : XO := fun e => (p e).bind fun d e1 => match d with
  | .int i => .ok (some i) e1
  | _ => .bad
theorem so_none : SO X W none oNone := PO.imp po_none fun σ H Q ⟨B, e, Z, R0, hq⟩ => hq _ Z H (Same.refl _) R0 rfl
theorem so_some {x : Expr} {p : XE} (h : SE X W x p) : SO X W (some x) (oSome p) := by
  refine PO.imp (po_some h) fun σ H Q ⟨B, e, Z, R0, hq⟩ => ?_
  refine rg_bind R0 hq fun v1 Z1 e1 d1 H1 s1 R1 D1 h1 => ?_
  cases D1 with
  | int i => exact ⟨i, rfl, h1 _ Z1 H1 (Same.refl _) R1 rfl⟩
  | non => exact h1.elim
  | bl _ => exact h1.elim
  | str _ => exact h1.elim
  | lst _ _ => exact h1.elim
  | tup _ _ => exact h1.elim
def OkS (K : Frag) (r : V → Option Int → Option Int → Hp → VK → Prop) (g : D → Option Int → Option Int → Option D) : Prop :=
  ∀ Z H x c lo hi d (Q : VK), Same Z H → Dq K Z x c → g c lo hi = some d → (∀ v Z' H', Nw Z H Z' H' → Dq K Z' v d → Q v H') → r x lo hi H Q
def eSl (g : D → Option Int → Option Int → Option D) (p : XE) (l h : XO) : XE := fun e => (p e).bind fun c e1 => (l e1).bind fun lo e2 => (h e2).bind fun hi e3 => R.lift (g c lo hi) e3
theorem se_sl {x : Expr} {r : V → Option Int → Option Int → Hp → VK → Prop} {g : D → Option Int → Option Int → Option D} {p : XE} {l u : XO} (ok : OkS X.K r g)
    (h : PE X x (tSl r (RE X.K X.mg W p) (RO X.K X.mg W l) (RO X.K X.mg W u))) : SE X W x (eSl g p l u) := by
  refine PE.imp h fun σ H Q ⟨B, e, Z, R0, hq⟩ => ?_
  refine rg_bind R0 hq fun v1 Z1 e1 d1 H1 s1 R1 D1 h1 => ?_
  refine rg_bind R1 h1 fun v2 Z2 e2 d2 H2 s2 R2 D2 h2 => ?_
  refine rg_bind R2 h2 fun v3 Z3 e3 d3 H3 s3 R3 D3 h3 => ?_
  subst D2
  subst D3
  obtain ⟨d, ed, k⟩ := pg_lift R3 h3
  exact ok Z3 H3 v1 d1 v2 v3 d Q R3.sub (dp_mono (s2.trans s3) D1) ed k
end
end G
set_option Elab.async false
set_option linter.all false
set_option maxRecDepth 100000
namespace G
open PySem PySem.Spec PyProof.Rows L2

/-! ### statements -/
inductive Fl where
  | nx | bk | ct
  | rt (d : D)
  | rn (ds : List D)
abbrev XS := En → R Fl

section
variable {K : Frag} {mg : Str → Option Value} {W : WX} {B : Bs} {σ : L2.St} {Z Z' H : Hp} {e : En}
def PgS (K : Frag) (mg : Str → Option Value) (W : WX) (B : Bs) (Z : Hp) (r : R Fl) (Dn : Ends) : Prop := match r with
  | .ok .nx e => ∀ σ' Z' H', Same Z Z' → Rl K B e σ' Z' H' → Dn.nx σ' H'
  | .ok .bk e => ∀ σ' Z' H', Same Z Z' → Rl K B e σ' Z' H' → Dn.bk σ' H'
  | .ok .ct e => ∀ σ' Z' H', Same Z Z' → Rl K B e σ' Z' H' → Dn.ct σ' H'
  | .ok (.rt d) e => ∀ v σ' Z' H', Same Z Z' → Rl K B e σ' Z' H' → Dq K Z' v d → Dn.rt v H'
  | .ok (.rn ds) e => ∀ p vs σ' Z' H', Same Z Z' → Rl K B e σ' Z' H' → H' p = some (.lst vs) → Z' p = none → (B.H p = none ∨ B.W p) → ¬ Owns e σ' p → DqAll K Z' vs ds → Dn.rt (.ref p) H'
  | .ex x e => ∀ c dd σ' Z' H', Same Z Z' → Rl K B e σ' Z' H' → XnOk K mg Z' H' x c dd → W c dd σ' H'
  | .bad => False
def RSt (K : Frag) (mg : Str → Option Value) (W : WX) (p : XS) : TS := fun Dn σ H => ∃ B e Z, Rl K B e σ Z H ∧ PgS K mg W B Z (p e) Dn
theorem PgS.up {r : R Fl} {Dn : Ends} (s : Same Z Z') (h : PgS K mg W B Z r Dn) : PgS K mg W B Z' r Dn := by
  cases r with
  | ok f e =>
    cases f with
    | nx => exact fun b Z1 H1 s1 R1 => h b Z1 H1 (s.trans s1) R1
    | bk => exact fun b Z1 H1 s1 R1 => h b Z1 H1 (s.trans s1) R1
    | ct => exact fun b Z1 H1 s1 R1 => h b Z1 H1 (s.trans s1) R1
    | rt d => exact fun v b Z1 H1 s1 R1 => h v b Z1 H1 (s.trans s1) R1
    | rn d => exact fun p v b Z1 H1 s1 R1 => h p v b Z1 H1 (s.trans s1) R1
  | ex x e => exact fun c dd b Z1 H1 s1 R1 => h c dd b Z1 H1 (s.trans s1) R1
  | bad => exact h
theorem rs_bind {α β : Type} {vr : Hp → β → α → Prop} {p : En → R α} {k : α → En → R Fl} {Dn : Ends} {Q' : β → Hp → Prop} (R0 : Rl K B e σ Z H) (h : PgS K mg W B Z ((p e).bind k) Dn)
    (f : ∀ x Z1 e1 a H1, Same Z Z1 → Rl K B e1 σ Z1 H1 → vr Z1 x a → PgS K mg W B Z1 (k a e1) Dn → Q' x H1) : Rg K mg W vr p σ H Q' := by
  refine ⟨B, e, Z, R0, ?_⟩
  cases hp : p e with
  | ok a e1 =>
    rw [hp] at h
    exact fun b Z1 H1 s1 R1 v => f b Z1 e1 a H1 s1 R1 v (PgS.up s1 h)
  | ex x e1 =>
    rw [hp] at h
    exact fun c dd Z1 H1 s1 R1 x1 => h c dd σ Z1 H1 s1 R1 x1
  | bad =>
    rw [hp] at h
    exact h
end
abbrev SS (X : Cx) (W : WX) (st : Stmt) (p : XS) : Prop := PS X st (RSt X.K X.mg W p)
abbrev SB (X : Cx) (W : WX) (st : List Stmt) (p : XS) : Prop := PSs X st (RSt X.K X.mg W p)
section
variable {X : Cx} {W : WX} {pos : Pos}
theorem PS.imp {e : Stmt} {t t' : TS} (h : PS X e t) (f : ∀ Dn σ H, t' Dn σ H → t Dn σ H) : PS X e t' := ⟨fun pins s σ H Dn I hq => h.run pins s σ H Dn I (f Dn σ H hq)⟩
theorem PSs.imp {e : List Stmt} {t t' : TS} (h : PSs X e t) (f : ∀ Dn σ H, t' Dn σ H → t Dn σ H) : PSs X e t' := ⟨fun pins s σ H Dn I hq => h.run pins s σ H Dn I (f Dn σ H hq)⟩
def sNx : XS := fun e => .ok .nx e
def sSeq (p q : XS) : XS := fun e => (p e).bind fun f e1 => match f with
  | .nx => q e1
  | f => .ok f e1
theorem sb_nil : SB X W [] sNx := PSs.imp pss_nil fun Dn σ H ⟨B, e, Z, R0, hq⟩ => hq σ Z H (Same.refl _) R0
theorem sb_cons {st : Stmt} {rest : List Stmt} {p q : XS} (h1 : SS X W st p) (h2 : SB X W rest q) : SB X W (st :: rest) (sSeq p q) := by
  refine PSs.imp (pss_cons h1 h2) fun Dn σ H ⟨B, e, Z, R0, hq⟩ => ⟨B, e, Z, R0, ?_⟩
  unfold sSeq at hq
  cases hp : p e with
  | ok f e1 =>
    rw [hp] at hq
    cases f with
    | nx => exact fun σ' Z' H' s1 R1 => ⟨B, e1, Z', R1, PgS.up s1 hq⟩
    | bk => exact hq
    | ct => exact hq
    | rt d => exact hq
    | rn d => exact hq
  | ex x e1 =>
    rw [hp] at hq
    exact hq
  | bad =>
    rw [hp] at hq
    exact hq
theorem sb_one {st : Stmt} {p : XS} (h1 : SS X W st p) : SB X W [st] p := pss_one h1
theorem ss_pass : SS X W (.Pass pos) sNx := PS.imp ps_pass fun Dn σ H ⟨B, e, Z, R0, hq⟩ => hq σ Z H (Same.refl _) R0
theorem ss_break : SS X W (.Break pos) (fun e => .ok .bk e) := PS.imp ps_break fun Dn σ H ⟨B, e, Z, R0, hq⟩ => hq σ Z H (Same.refl _) R0
theorem ss_continue : SS X W (.Continue pos) (fun e => .ok .ct e) := PS.imp ps_continue fun Dn σ H ⟨B, e, Z, R0, hq⟩ => hq σ Z H (Same.refl _) R0
theorem ss_doc {x j pos'} : SS X W (.Expr (.Constant (.str x) j pos) pos') sNx := PS.imp ps_doc fun Dn σ H ⟨B, e, Z, R0, hq⟩ => hq σ Z H (Same.refl _) R0
def sExpr (p : XE) : XS := fun e => (p e).bind fun _ e1 => .ok .nx e1
theorem ss_expr {x : Expr} {p : XE} (h : SE X W x p) (hs : swapsWith x none pos.line X.env = pure false := by rfl) : SS X W (.Expr x pos) (sExpr p) := by
  refine PS.imp (ps_expr h hs) fun Dn σ H ⟨B, e, Z, R0, hq⟩ => ?_
  exact rs_bind R0 hq fun v1 Z1 e1 d1 H1 s1 R1 D1 h1 => h1 σ Z1 H1 (Same.refl _) R1
def sRet (p : XE) : XS := fun e => (p e).bind fun d e1 => .ok (.rt d) e1
theorem ss_ret {x : Expr} {p : XE} (h : SE X W x p) : SS X W (.Return (some x) pos) (sRet p) := by
  refine PS.imp (ps_ret h) fun Dn σ H ⟨B, e, Z, R0, hq⟩ => ?_
  exact rs_bind R0 hq fun v1 Z1 e1 d1 H1 s1 R1 D1 h1 => h1 v1 σ Z1 H1 (Same.refl _) R1 D1
theorem ss_retN : SS X W (.Return none pos) (fun e => .ok (.rt .none) e) := PS.imp ps_retN fun Dn σ H ⟨B, e, Z, R0, hq⟩ => hq _ σ Z H (Same.refl _) R0 .non
def sIf (t : XT) (p q : XS) : XS := fun e => (t e).bind fun b e1 => if b = true then p e1 else q e1
theorem ss_if {c : Expr} {a b : List Stmt} {t : XT} {p q : XS} (hc : ST X W c t) (ha : SB X W a p) (hb : SB X W b q) : SS X W (.If c a b pos) (sIf t p q) := by
  refine PS.imp (ps_if hc ha hb) fun Dn σ H ⟨B, e, Z, R0, hq⟩ => ?_
  refine rs_bind R0 hq fun v1 Z1 e1 d1 H1 s1 R1 D1 h1 => ?_
  subst D1
  cases v1 with
  | true => exact ⟨B, e1, Z1, R1, h1⟩
  | false => exact ⟨B, e1, Z1, R1, h1⟩
def sSet (i : Nat) (p : XE) : XS := fun e => (p e).bind fun d e1 => .ok .nx (e1.set i (.dat d))
theorem rs_set {i : Nat} {p : XE} {te : TE} (h : ∀ σ H Q, RE X.K X.mg W p σ H Q → te σ H Q) : ∀ Dn σ H, RSt X.K X.mg W (sSet i p) Dn σ H → tAsg te (gName i) Dn σ H := fun Dn σ H ⟨B, e, Z, R0, hq⟩ => by
  refine h σ H _ ?_
  exact rs_bind R0 hq fun v1 Z1 e1 d1 H1 s1 R1 D1 h1 => h1 _ Z1 H1 (Same.refl _) (R1.set D1)
theorem ss_set {i : Nat} {x : Str} {e : Expr} {p : XE} {pos' : Pos} (hN : X.N.Nodup) (hi : X.N[i]? = some x) (hx : Loc X.env.scope x) (he : SE X W e p) (hs : swapsWith e (some (.Name x pos')) pos.line X.env = pure false := by rfl) (hf : X.fn x = true ∨ X.env.scope.names.lookup x = some .local := by first | exact .inl rfl | exact .inr rfl | assumption) :
    SS X W (.Assign [.Name x pos'] e pos) (sSet i p) := PS.imp (ps_set hN hi hx he hs hf) (rs_set fun _ _ _ h => h)

/-! ### targets -/
abbrev XG := D → En → Option En
def RG (K : Frag) (is : List Nat) (t : XG) : TG := fun v σ H Q => ∃ B e Z d e', Rl K B e σ Z H ∧ Dq K Z v d ∧ t d e = some e' ∧
  ∀ σ', Rl K B e' σ' Z H → σ'.length = σ.length → (∀ i, i ∉ is → σ'[i]? = σ[i]?) → Q σ' H
def RGs (K : Frag) (is : List Nat) (t : List D → En → Option En) : TGs := fun vs σ H Q => ∃ B e Z ds e', Rl K B e σ Z H ∧ DqAll K Z vs ds ∧ t ds e = some e' ∧
  ∀ σ', Rl K B e' σ' Z H → σ'.length = σ.length → (∀ i, i ∉ is → σ'[i]? = σ[i]?) → Q σ' H
abbrev SG (X : Cx) (tg : Expr) (is : List Nat) (t : XG) : Prop := PG X tg (RG X.K is t)
abbrev SGs (X : Cx) (tg : List Expr) (is : List Nat) (t : List D → En → Option En) : Prop := PGs X tg (RGs X.K is t)
theorem PG.imp {e : Expr} {t t' : TG} (h : PG X e t) (f : ∀ v σ H Q, t' v σ H Q → t v σ H Q) : PG X e t' := ⟨fun pins s σ H v u Q I r hq => h.run pins s σ H v u Q I r (f v σ H Q hq)⟩
theorem PGs.imp {e : List Expr} {t t' : TGs} (h : PGs X e t) (f : ∀ v σ H Q, t' v σ H Q → t v σ H Q) : PGs X e t' := ⟨fun pins s σ H v u Q I r hq => h.run pins s σ H v u Q I r (f v σ H Q hq)⟩
def gN (i : Nat) : XG := fun d e => some (e.set i (.dat d))
theorem sg_name {i : Nat} {x : Str} (hN : X.N.Nodup) (hi : X.N[i]? = some x) (hx : Loc X.env.scope x) (hf : X.fn x = true ∨ X.env.scope.names.lookup x = some .local := by first | exact .inl rfl | exact .inr rfl | assumption) : SG X (.Name x pos) [i] (gN i) := by
  refine PG.imp (pg_name hN hi hx hf) fun v σ H Q ⟨B, e, Z, d, e', R0, d0, ht, k⟩ => ?_
  cases ht
  exact k _ (R0.set d0) (by simp) fun j hj => List.getElem?_set_ne (fun z => hj (by simp [z]))
def gsNil : List D → En → Option En := fun ds e => match ds with
  | [] => some e
  | _ => none
def gsCons (t : XG) (u : List D → En → Option En) : List D → En → Option En
  | d :: r, e => (t d e).bind (u r)
  | [], _ => none
theorem sgs_nil : SGs X [] [] gsNil := by
  refine PGs.imp pgs_nil fun vs σ H Q ⟨B, e, Z, ds, e', R0, d0, ht, k⟩ => ?_
  cases d0 with
  | nil =>
    cases ht
    exact ⟨rfl, k σ R0 rfl fun _ _ => rfl⟩
  | cons _ _ => cases ht
theorem sgs_cons {x : Expr} {xs : List Expr} {is js : List Nat} {t : XG} {u : List D → En → Option En} (h1 : SG X x is t) (h2 : SGs X xs js u)
    (hs : (assignEach (x :: xs) X.env).map (·.2) = assign x X.env :: (assignEach xs X.env).map (·.2) := by rfl) : SGs X (x :: xs) (is ++ js) (gsCons t u) := by
  refine PGs.imp (pgs_cons h1 h2 hs) fun vs σ H Q ⟨B, e, Z, ds, e', R0, d0, ht, k⟩ => ?_
  cases d0 with
  | nil => cases ht
  | @cons v vr d dr a b =>
    show ∃ v' r, _ ∧ _
    unfold gsCons at ht
    simp only at ht
    cases h : t d e with
    | none => rw [h] at ht; cases ht
    | some e1 =>
      rw [h] at ht
      refine ⟨v, vr, rfl, B, e, Z, d, e1, R0, a, h, fun σ1 R1 l1 f1 => ?_⟩
      exact ⟨B, e1, Z, dr, e', R1, b, ht, fun σ2 R2 l2 f2 => k σ2 R2 (l2.trans l1) fun i hi => (f2 i fun z => hi (by simp [z])).trans (f1 i fun z => hi (by simp [z]))⟩
def gT (n : Nat) (t : List D → En → Option En) : XG := fun d e => match d with
  | .tuple ds => if ds.length = n then t ds e else none
  | _ => none
theorem sg_tup {xs : List Expr} {k n : Nat} {is : List Nat} {t : List D → En → Option En} (hc : X.calm = true) (h : SGs X xs is t)
    (hn : (assignEach xs X.env).length = n := by rfl) (hst : (assignEach xs X.env).findIdx? (·.1) = none := by rfl) : SG X (.Tuple xs k pos) is (gT n t) := by
  refine PG.imp (pg_tup hc h hn hst) fun v σ H Q ⟨B, e, Z, d, e', R0, d0, ht, kk⟩ => ?_
  cases d0 with
  | tup q a =>
    unfold gT at ht
    simp only at ht
    split at ht
    · exact ⟨_, _, rfl, same_tup R0.sub q, by rw [dpa_len a]; assumption, B, e, Z, _, e', R0, a, ht, kk⟩
    · cases ht
  | non => cases ht
  | bl _ => cases ht
  | int _ => cases ht
  | str _ => cases ht
  | lst _ _ => cases ht
/-- target = e -/
def sAsg (t : XG) (p : XE) : XS := fun e => (p e).bind fun d e1 => match t d e1 with
  | some e2 => .ok .nx e2
  | none => .bad
theorem ss_asg {tg e : Expr} {is : List Nat} {t : XG} {p : XE} (he : SE X W e p) (hg : SG X tg is t) (hs : swapsWithSole [tg] e pos.line X.env = pure false := by rfl) (hw : swappedStores [tg] e X.env = pure none := by rfl)
    (h1 : (assignEach [tg] X.env).map (·.2) = [assign tg X.env] := by rfl) : SS X W (.Assign [tg] e pos) (sAsg t p) := by
  refine PS.imp (ps_asg he hg hs hw h1) fun Dn σ H ⟨B, e, Z, R0, hq⟩ => ?_
  refine rs_bind R0 hq fun v1 Z1 e1 d1 H1 s1 R1 D1 h1 => ?_
  cases h : t d1 e1 with
  | none => rw [h] at h1; exact h1.elim
  | some e2 =>
    rw [h] at h1
    exact ⟨B, e1, Z1, d1, e2, R1, D1, h, fun σ' R2 _ _ => h1 σ' Z1 H1 (Same.refl _) R2⟩

/-! ### walks -/
structure Wk (K : Frag) (Z : Hp) (J : It) (ds : List D) : Prop where
  goes : ∀ i H, i < ds.length → Same Z H → J.go i H
  stops : ∀ H, Same Z H → J.stop ds.length H
  ylds : ∀ i H x H' B e σ Z1, i < ds.length → Same Z Z1 → Rl K B e σ Z1 H → J.yld i H x H' → ∃ Z2 d, Same Z1 Z2 ∧ Rl K B e σ Z2 H' ∧ ds[i]? = some d ∧ Dq K Z2 x d
theorem Wk.up {K : Frag} {Z Z' : Hp} {J : It} {ds : List D} (w : Wk K Z J ds) (s : Same Z Z') : Wk K Z' J ds :=
  ⟨fun i H h q => w.goes i H h (s.trans q), fun H q => w.stops H (s.trans q), fun i H x H' B e σ Z1 h q => w.ylds i H x H' B e σ Z1 h (s.trans q)⟩
abbrev XI := En → R (List D)
abbrev RI (K : Frag) (mg : Str → Option Value) (W : WX) (p : XI) : TI := Rg K mg W (fun Z J ds => Wk K Z J ds) p
abbrev SI (X : Cx) (W : WX) (tg it : Expr) (p : XI) : Prop := PI X tg it (RI X.K X.mg W p)
theorem PI.imp {tg it : Expr} {t t' : TI} (h : PI X tg it t) (f : ∀ σ H Q, t' σ H Q → t σ H Q) : PI X tg it t' := ⟨fun pins s σ H Q I hq => h.run pins s σ H Q I (f σ H Q hq)⟩
def forD (t : XG) (b : XS) : List D → XS
  | [], e => .ok .nx e
  | d :: ds, e => match t d e with
    | none => .bad
    | some e1 => (b e1).bind fun f e2 => match f with
      | .nx => forD t b ds e2
      | .ct => forD t b ds e2
      | .bk => .ok .nx e2
      | .rt d => .ok (.rt d) e2
      | .rn d => .ok (.rn d) e2
def sFor (pi : XI) (t : XG) (b : XS) : XS := fun e => (pi e).bind fun ds e1 => forD t b ds e1
theorem ss_for {tg iter : Expr} {body : List Stmt} {pi : XI} {t : XG} {is : List Nat} {b : XS} (hp : PassesOwn (model X.prog X.w) X.A X.env X.xe) (hc : X.calm = true) (hi : SI X W tg iter pi) (hg : SG X tg is t) (hb : SB X W body b)
    (hs : ∀ x, foldedSetIterable iter X.env x = pure x := by intro _; rfl) : SS X W (.For tg iter body [] pos) (sFor pi t b) := by
  refine PS.imp (ps_for hp hc hi hg hb hs) fun Dn σ H ⟨B, e, Z, R0, hq⟩ => ?_
  refine rs_bind R0 hq fun J Z1 e1 ds H1 s1 R1 w h1 => ?_
  refine ⟨fun i m σ H => m = ds.length - i ∧ i ≤ ds.length ∧ ∃ e Z', Same Z1 Z' ∧ Rl X.K B e σ Z' H ∧ PgS X.K X.mg W B Z' (forD t b (ds.drop i) e) Dn, ⟨ds.length, by simp, Nat.zero_le _, e1, Z1, Same.refl _, R1, h1⟩, ?_⟩
  rintro i m σ H ⟨rfl, hi, e2, Z2, s2, R2, h2⟩
  by_cases hlt : i < ds.length
  · refine .inr ⟨w.goes i H hlt (s2.trans R2.sub), fun σ' H' => (i + 1 ≤ ds.length ∧ ∃ e Z', Same Z1 Z' ∧ Rl X.K B e σ' Z' H' ∧ PgS X.K X.mg W B Z' (forD t b (ds.drop (i + 1)) e) Dn), fun σ' H' h => ⟨ds.length - (i + 1), by omega, rfl, h⟩, fun x H' hy => ?_⟩
    obtain ⟨Z3, d, s3, R3, hd, D3⟩ := w.ylds i H x H' B e2 σ Z2 hlt s2 R2 hy
    have ed : ds.drop i = d :: ds.drop (i + 1) := by
      rw [List.drop_eq_getElem_cons hlt]
      congr 1
      rw [List.getElem?_eq_getElem hlt] at hd
      exact Option.some.inj hd
    rw [ed] at h2
    unfold forD at h2
    cases ht : t d e2 with
    | none =>
      simp only [ht] at h2
      exact h2.elim
    | some e3 =>
      simp only [ht] at h2
      refine ⟨B, e2, Z3, d, e3, R3, D3, ht, fun σ4 R4 _ _ => ⟨B, e3, Z3, R4, ?_⟩⟩
      cases hb : b e3 with
      | bad => rw [hb] at h2; exact h2.elim
      | ex x e4 =>
        rw [hb] at h2
        exact PgS.up s3 h2
      | ok f e4 =>
        rw [hb] at h2
        have h2' := PgS.up s3 h2
        cases f with
        | nx => exact fun σ5 Z5 H5 s5 R5 => ⟨hlt, e4, Z5, (s2.trans s3).trans s5, R5, PgS.up s5 h2'⟩
        | ct => exact fun σ5 Z5 H5 s5 R5 => ⟨hlt, e4, Z5, (s2.trans s3).trans s5, R5, PgS.up s5 h2'⟩
        | bk => exact h2'
        | rt d => exact h2'
        | rn d => exact h2'
  · have ei : i = ds.length := by omega
    subst ei
    refine .inl ⟨w.stops H (s2.trans R2.sub), ?_⟩
    rw [List.drop_length] at h2
    exact h2 σ Z2 H (Same.refl _) R2

/-! ### the walks there are -/
section
variable {tg : Expr}
/-- what data gives when it is walked -/
def iD : D → Option (List D)
  | .list ds => some ds
  | .tuple ds => some ds
  | .str z => some (z.cps.toList.map fun c => .str ⟨#[c]⟩)
  | _ => none
def iOf (p : XE) : XI := fun e => (p e).bind fun d e1 => R.lift (iD d) e1
theorem wk_list {K : Frag} {Z : Hp} {a : Addr} {vs : List V} {ds : List D} (q : SqL K Z a vs) (h : DqAll K Z vs ds) : Wk K Z (Itl K a) ds := by
  refine ⟨fun i H hi s => ?_, fun H s => ⟨vs, Same.seq s q, by rw [dpa_len h]; exact Nat.le_refl _⟩, fun i H x H' B e σ Z1 hi s R hy => ?_⟩
  · obtain ⟨v, e1, _⟩ := dpa_get h (List.getElem?_eq_getElem hi)
    exact ⟨vs, v, Same.seq s q, e1⟩
  · obtain ⟨rfl, f⟩ := hy
    obtain ⟨v, e1, e2⟩ := dpa_get h (List.getElem?_eq_getElem hi)
    have := f vs (Same.seq (s.trans R.sub) q)
    rw [e1] at this
    cases this
    exact ⟨Z1, _, Same.refl _, R, List.getElem?_eq_getElem hi, dp_mono s e2⟩
theorem wk_tup {K : Frag} {Z : Hp} {a : Addr} {vs : List V} {ds : List D} (q : SqT K Z a vs) (h : DqAll K Z vs ds) : Wk K Z (Itt K a) ds := by
  refine ⟨fun i H hi s => ?_, fun H s => ⟨vs, same_tup s q, by rw [dpa_len h]; exact Nat.le_refl _⟩, fun i H x H' B e σ Z1 hi s R hy => ?_⟩
  · obtain ⟨v, e1, _⟩ := dpa_get h (List.getElem?_eq_getElem hi)
    exact ⟨vs, v, same_tup s q, e1⟩
  · obtain ⟨rfl, f⟩ := hy
    obtain ⟨v, e1, e2⟩ := dpa_get h (List.getElem?_eq_getElem hi)
    have := f vs (same_tup (s.trans R.sub) q)
    rw [e1] at this
    cases this
    exact ⟨Z1, _, Same.refl _, R, List.getElem?_eq_getElem hi, dp_mono s e2⟩
theorem wk_str {K : Frag} {Z : Hp} {z : Str} : Wk K Z (Its z) (z.cps.toList.map fun c => .str ⟨#[c]⟩) := by
  have hl : (z.cps.toList.map fun c => PyData.str ⟨#[c]⟩).length = z.cps.size := by simp
  refine ⟨fun i H hi s => walk_str.goes i H (by omega) trivial, fun H s => by rw [hl]; exact walk_str.stops H trivial, fun i H x H' B e σ Z1 hi s R hy => ?_⟩
  obtain ⟨rfl, c, hc, rfl⟩ := walk_str.yields i H x H' (by omega) trivial hy
  refine ⟨Z1, .str ⟨#[c]⟩, Same.refl _, R, ?_, .str _⟩
  rw [List.getElem?_map, Array.getElem?_toList, hc]
  rfl
end
/-- what is walked, by its value -/
def ItR (X : Cx) (tg : Expr) (r : V → Hp → (It → Hp → Prop) → Prop) : Prop :=
  ∀ (pins : List (Addr × Obj)) (s : Shared) (σ : L2.St) (H : Hp) (x : V) (v : Value) (R : It → Hp → Prop), Inv X pins σ H s → RelV x v → r x H R →
    wpAny (model X.prog X.w) X.A (pyIter v) (PIE X pins σ tg R) X.xe s
theorem it_list {tg : Expr} : ItR X tg (fun x H R => ∃ a xs, x = .ref a ∧ SqL X.K H a xs ∧ R (Itl X.K a) H) := by
  intro pins s σ H x v R I r ⟨a, xs, e, hq, q⟩
  subst e
  cases r
  obtain ⟨its, rv, p, hz⟩ := I.list hq
  refine wpAny_pyIter_list p.isList ?_
  refine ⟨s.heap.objs.size, [s.heap.objs.size], _, _, H, rfl, I.kept (t' := s.toks) fun b o e => Heap.get?_push_of_some _ e, turn_list a _, ⟨_, Heap.get?_push_size _ rfl, rfl, rfl⟩, fun b hb => ?_, q⟩
  have e : b = s.heap.objs.size := by simpa using hb
  subst e
  exact I.fpOk (Nat.le_refl _) (I.hok.fresh (Nat.le_refl _))
theorem it_tup {tg : Expr} : ItR X tg (fun x H R => ∃ a xs, x = .ref a ∧ SqT X.K H a xs ∧ R (Itt X.K a) H) := by
  intro pins s σ H x v R I r ⟨a, xs, e, hq, q⟩
  subst e
  cases r
  obtain ⟨its, rv, p, hz⟩ := I.tuple hq
  refine wpAny_pyIter_tuple (show s.heap.IsTuple a its.toArray from p) ?_
  refine ⟨s.heap.objs.size, [s.heap.objs.size], _, _, H, rfl, I.kept (t' := s.toks) fun b o e => Heap.get?_push_of_some _ e, turn_tuple a _, ⟨_, Heap.get?_push_size _ rfl, rfl, rfl⟩, fun b hb => ?_, q⟩
  have e : b = s.heap.objs.size := by simpa using hb
  subst e
  exact I.fpOk (Nat.le_refl _) (I.hok.fresh (Nat.le_refl _))
theorem it_str {tg : Expr} : ItR X tg (fun x H R => ∃ z, x = .str z ∧ R (Its z) H) := by
  intro pins s σ H x v R I r ⟨z, e, q⟩
  subst e
  obtain ⟨t, rfl⟩ := r
  cases ha : z.cps.all (· < 128)
  · exact wpAny_pyIter_wide ha (pi_one (tk := s.toks) I _ (turn_str _ z t "str_iterator" (.inr rfl)) ⟨_, Heap.get?_push_size _ rfl, rfl, rfl⟩ q)
  · exact wpAny_pyIter_ascii ha (pi_one (tk := s.toks) I _ (turn_str _ z t "str_ascii_iterator" (.inl rfl)) ⟨_, Heap.get?_push_size _ rfl, rfl, rfl⟩ q)
/-- a list, a tuple or a text is walked -/
theorem si_dat {tg it : Expr} {p : XE} (h : SE X W it p) : SI X W tg it (iOf p) := by
  refine ⟨fun pins s σ H R I ⟨B, e, Z, R0, hq⟩ => ?_⟩
  have h1 : RE X.K X.mg W p σ H fun v H1 => ∃ J, R J H1 ∧ ((∃ a xs, v = .ref a ∧ SqL X.K H1 a xs ∧ J = Itl X.K a) ∨ (∃ a xs, v = .ref a ∧ SqT X.K H1 a xs ∧ J = Itt X.K a) ∨ ∃ z, v = .str z ∧ J = Its z) := by
    refine rg_bind R0 hq fun v1 Z1 e1 d1 H1 s1 R1 D1 h1 => ?_
    cases D1 with
    | lst q a => exact ⟨_, h1 _ Z1 H1 (Same.refl _) R1 (wk_list (.inl (.inl q)) a), .inl ⟨_, _, rfl, .inl (.inl (R1.sub _ _ q)), rfl⟩⟩
    | tup q a => exact ⟨_, h1 _ Z1 H1 (Same.refl _) R1 (wk_tup q a), .inr (.inl ⟨_, _, rfl, same_tup R1.sub q, rfl⟩)⟩
    | str z => exact ⟨_, h1 _ Z1 H1 (Same.refl _) R1 wk_str, .inr (.inr ⟨_, rfl, rfl⟩)⟩
    | non => exact h1.elim
    | bl _ => exact h1.elim
    | int _ => exact h1.elim
  refine thn (h.run pins s σ H _ I h1) fun v s1 ⟨x, H1, I1, r1, J, hr, q⟩ => ?_
  rcases q with ⟨a, xs, e1, q, rfl⟩ | ⟨a, xs, e1, q, rfl⟩ | ⟨z, e1, rfl⟩
  · exact it_list pins s1 σ H1 x v R I1 r1 ⟨a, xs, e1, q, hr⟩
  · exact it_tup pins s1 σ H1 x v R I1 r1 ⟨a, xs, e1, q, hr⟩
  · exact it_str pins s1 σ H1 x v R I1 r1 ⟨z, e1, hr⟩
/-- range(n), range(a, b) -/
def rgD (a b : Int) : List D := (List.range (b - a).toNat).map fun (i : Nat) => .int (a + (i : Int))
theorem wk_range {K : Frag} {Z : Hp} {lo : Int} {n : Nat} : Wk K Z (Itr lo n) ((List.range n).map fun (i : Nat) => .int (lo + (i : Int))) := by
  have hl : ((List.range n).map fun (i : Nat) => PyData.int (lo + (i : Int))).length = n := by simp
  refine ⟨fun i H hi s => walk_range.goes i H (by omega) trivial, fun H s => by rw [hl]; exact walk_range.stops H trivial, fun i H x H' B e σ Z1 hi s R hy => ?_⟩
  obtain ⟨rfl, rfl⟩ := walk_range.yields i H x H' (by omega) trivial hy
  refine ⟨Z1, .int (lo + i), Same.refl _, R, ?_, .int _⟩
  rw [List.getElem?_map, List.getElem?_range (by omega)]
  rfl
end
end G
set_option Elab.async false
set_option linter.all false
set_option maxRecDepth 100000
namespace G
open PySem PySem.Spec PyProof.Rows L2

section
variable {K : Frag} {Z : Hp} {v : V} {vs : List V}
theorem dp_int {n : Int} (h : Dq K Z v (.int n)) : v = .int n := by cases h; rfl
theorem dp_str {n : Str} (h : Dq K Z v (.str n)) : v = .str n := by cases h; rfl
theorem dp_bool {n : Bool} (h : Dq K Z v (.bool n)) : v = .bl n := by cases h; rfl
theorem dp_none (h : Dq K Z v .none) : v = .non := by cases h; rfl
theorem dp_list {ds : List D} (h : Dq K Z v (.list ds)) : ∃ a ws, v = .ref a ∧ Z a = some (.lst ws) ∧ DqAll K Z ws ds := by cases h with | lst q a => exact ⟨_, _, rfl, q, a⟩
theorem dp_tuple {ds : List D} (h : Dq K Z v (.tuple ds)) : ∃ a ws, v = .ref a ∧ SqT K Z a ws ∧ DqAll K Z ws ds := by cases h with | tup q a => exact ⟨_, _, rfl, q, a⟩
theorem dpa_nil (h : DqAll K Z vs []) : vs = [] := by cases h; rfl
theorem dpa_cons {d : D} {ds : List D} (h : DqAll K Z vs (d :: ds)) : ∃ v ws, vs = v :: ws ∧ Dq K Z v d ∧ DqAll K Z ws ds := by cases h with | cons a b => exact ⟨_, _, rfl, a, b⟩
theorem dpa_1 {d : D} (h : DqAll K Z vs [d]) : ∃ v, vs = [v] ∧ Dq K Z v d := by
  obtain ⟨v, ws, rfl, a, b⟩ := dpa_cons h
  cases dpa_nil b
  exact ⟨v, rfl, a⟩
theorem dpa_2 {d e : D} (h : DqAll K Z vs [d, e]) : ∃ v w, vs = [v, w] ∧ Dq K Z v d ∧ Dq K Z w e := by
  obtain ⟨v, ws, rfl, a, b⟩ := dpa_cons h
  obtain ⟨w, rfl, c⟩ := dpa_1 b
  exact ⟨v, w, rfl, a, c⟩
end

section
variable {X : Cx} {W : WX} {pos : Pos}
def rg1 : List D → Option (List D)
  | [.int n] => if -(2 ^ 62) ≤ n ∧ n < 2 ^ 62 then some (rgD 0 n) else none
  | _ => none
def rg2 : List D → Option (List D)
  | [.int a, .int b] => if (-(2 ^ 62) ≤ a ∧ a < 2 ^ 62) ∧ -(2 ^ 62) ≤ b ∧ b < 2 ^ 62 then some (rgD a b) else none
  | _ => none
def iArgs (g : List D → Option (List D)) (q : XA) : XI := fun e => (q e).bind fun ds e1 => R.lift (g ds) e1
theorem rg1_of {ds xs : List D} (h : rg1 ds = some xs) : ∃ n : Int, ds = [.int n] ∧ (-(2 ^ 62) ≤ n ∧ n < 2 ^ 62) ∧ xs = rgD 0 n := by
  unfold rg1 at h
  split at h
  · split at h
    · cases h; exact ⟨_, rfl, by assumption, rfl⟩
    · cases h
  · cases h
theorem rg2_of {ds xs : List D} (h : rg2 ds = some xs) : ∃ n m : Int, ds = [.int n, .int m] ∧ ((-(2 ^ 62) ≤ n ∧ n < 2 ^ 62) ∧ -(2 ^ 62) ≤ m ∧ m < 2 ^ 62) ∧ xs = rgD n m := by
  unfold rg2 at h
  split at h
  · split at h
    · cases h; exact ⟨_, _, rfl, by assumption, rfl⟩
    · cases h
  · cases h
theorem pgi_lift {β : Type} {vr : Hp → β → List D → Prop} {B : Bs} {σ : L2.St} {Z : Hp} {e : En} {o : Option (List D)} {Q : β → Hp → Prop} (h : Pg X.K X.mg W B σ Z vr (R.lift o e) Q) : ∃ ds, o = some ds ∧ Pg X.K X.mg W B σ Z vr (R.ok ds e) Q := by
  cases o with
  | none => exact h.elim
  | some ds => exact ⟨ds, rfl, h⟩
theorem si_range1 {tg a : Expr} {q : XA} {p pos : Pos} (hg : Gl X "range") (hm : X.mg "range" = none) (ha : SA X W [a] q) (hs : starEach [a] X.env = [(false, eval a X.env)] := by rfl) : SI X W tg (.Call (.Name "range" p) [a] [] pos) (iArgs rg1 q) := by
  refine PI.imp (pi_range1 hg hm ha hs) fun σ H Q ⟨B, e, Z, R0, hq⟩ => ?_
  refine rg_bind R0 hq fun v1 Z1 e1 d1 H1 s1 R1 D1 h1 => ?_
  obtain ⟨ds, e2, h2⟩ := pgi_lift h1
  obtain ⟨n, rfl, hn, rfl⟩ := rg1_of e2
  obtain ⟨v, rfl, a⟩ := dpa_1 D1
  cases dp_int a
  refine ⟨n, rfl, hn.1, hn.2, h2 _ Z1 H1 (Same.refl _) R1 ?_⟩
  have := wk_range (K := X.K) (Z := Z1) (lo := 0) (n := n.toNat)
  unfold rgD
  rw [Int.sub_zero]
  exact this
theorem si_range2 {tg a b : Expr} {q : XA} {p pos : Pos} (hg : Gl X "range") (hm : X.mg "range" = none) (ha : SA X W [a, b] q) (hs : starEach [a, b] X.env = [(false, eval a X.env), (false, eval b X.env)] := by rfl) (hs2 : starEach [b] X.env = [(false, eval b X.env)] := by rfl) : SI X W tg (.Call (.Name "range" p) [a, b] [] pos) (iArgs rg2 q) := by
  refine PI.imp (pi_range2 hg hm ha hs hs2) fun σ H Q ⟨B, e, Z, R0, hq⟩ => ?_
  refine rg_bind R0 hq fun v1 Z1 e1 d1 H1 s1 R1 D1 h1 => ?_
  obtain ⟨ds, e2, h2⟩ := pgi_lift h1
  obtain ⟨n, m, rfl, hn, rfl⟩ := rg2_of e2
  obtain ⟨v, w, rfl, a, b⟩ := dpa_2 D1
  cases dp_int a
  cases dp_int b
  exact ⟨n, m, rfl, ⟨hn.1.1, hn.1.2, hn.2.1, hn.2.2⟩, h2 _ Z1 H1 (Same.refl _) R1 (wk_range (K := X.K) (Z := Z1) (lo := n) (n := (m - n).toNat))⟩

/-! ### new lists -/
def PgF (K : Frag) (mg : Str → Option Value) (W : WX) (B : Bs) (σ : L2.St) (Z : Hp) (r : R (List D)) (Q : VK) : Prop := match r with
  | .ok ds e => ∀ p vs Z' H', Same Z Z' → Rl K B e σ Z' H' → H' p = some (.lst vs) → Z' p = none → (B.H p = none ∨ B.W p) → ¬ Owns e σ p → DqAll K Z' vs ds → Q (.ref p) H'
  | .ex x e => ∀ c dd Z' H', Same Z Z' → Rl K B e σ Z' H' → XnOk K mg Z' H' x c dd → W c dd σ H'
  | .bad => False
def RN (K : Frag) (mg : Str → Option Value) (W : WX) (p : XI) : TE := fun σ H Q => ∃ B e Z, Rl K B e σ Z H ∧ PgF K mg W B σ Z (p e) Q
abbrev SN (X : Cx) (W : WX) (e : Expr) (p : XI) : Prop := PE X e (RN X.K X.mg W p)
theorem PgF.up {K : Frag} {mg : Str → Option Value} {B : Bs} {σ : L2.St} {Z Z' : Hp} {r : R (List D)} {Q : VK} (s : Same Z Z') (h : PgF K mg W B σ Z r Q) : PgF K mg W B σ Z' r Q := by
  cases r with
  | ok a e => exact fun p vs Z1 H1 s1 => h p vs Z1 H1 (s.trans s1)
  | ex x e => exact fun c dd Z1 H1 s1 => h c dd Z1 H1 (s.trans s1)
  | bad => exact h
theorem rn_bind {α β : Type} {K : Frag} {mg : Str → Option Value} {B : Bs} {σ : L2.St} {Z H : Hp} {e : En} {vr : Hp → β → α → Prop} {p : En → R α} {k : α → En → R (List D)} {Q : VK} {Q' : β → Hp → Prop} (R0 : Rl K B e σ Z H) (h : PgF K mg W B σ Z ((p e).bind k) Q)
    (f : ∀ x Z1 e1 a H1, Same Z Z1 → Rl K B e1 σ Z1 H1 → vr Z1 x a → PgF K mg W B σ Z1 (k a e1) Q → Q' x H1) : Rg K mg W vr p σ H Q' := by
  refine ⟨B, e, Z, R0, ?_⟩
  cases hp : p e with
  | ok a e1 =>
    rw [hp] at h
    exact fun b Z1 H1 s1 R1 v => f b Z1 e1 a H1 s1 R1 v (PgF.up s1 h)
  | ex x e1 =>
    rw [hp] at h
    exact h
  | bad =>
    rw [hp] at h
    exact h
def eNew (p : XI) : XE := fun e => (p e).bind fun ds e1 => .ok (.list ds) e1
/-- by value: it is frozen -/
theorem rn_val {σ : L2.St} {H : Hp} {Q : VK} {p : XI} (h : RE X.K X.mg W (eNew p) σ H Q) : RN X.K X.mg W p σ H Q := by
  obtain ⟨B, e, Z, R0, hq⟩ := h
  refine ⟨B, e, Z, R0, ?_⟩
  unfold eNew at hq
  cases hp : p e with
  | ok ds e1 =>
    rw [hp] at hq
    intro a vs Z1 H1 s1 R1 h1 h2 h3 h4 h5
    obtain ⟨R2, s2⟩ := R1.fix h2 h3 h1 h4
    exact hq _ _ H1 (s1.trans s2) R2 (.lst upd_same (dpa_mono s2 h5))
  | ex x e1 => rw [hp] at hq; exact hq
  | bad => rw [hp] at hq; exact hq
theorem se_new {x : Expr} {p : XI} (h : SN X W x p) : SE X W x (eNew p) := PE.imp h fun _ _ _ => rn_val
/-- kept by a name that alone has it -/
def sOwn (i : Nat) (p : XI) : XS := fun e => (p e).bind fun ds e1 => .ok .nx (e1.set i (.own none (.lst ds)))
theorem rs_own {i : Nat} {p : XI} {te : TE} (h : ∀ σ H Q, RN X.K X.mg W p σ H Q → te σ H Q) : ∀ Dn σ H, RSt X.K X.mg W (sOwn i p) Dn σ H → tAsg te (gName i) Dn σ H := fun Dn σ H ⟨B, e, Z, R0, hq⟩ => by
  refine h σ H _ ⟨B, e, Z, R0, ?_⟩
  unfold sOwn at hq
  cases hp : p e with
  | ok ds e1 =>
    rw [hp] at hq
    intro a vs Z1 H1 s1 R1 h1 h2 h3 h4 h5
    exact hq _ Z1 H1 s1 (R1.setOwn h1 h2 h3 h4 ⟨vs, rfl, h5⟩)
  | ex x e1 => rw [hp] at hq; exact fun c dd Z1 H1 s1 R1 x1 => hq c dd σ Z1 H1 s1 R1 x1
  | bad => rw [hp] at hq; exact hq
theorem ss_own {i : Nat} {x : Str} {e : Expr} {p : XI} {pos' : Pos} (hN : X.N.Nodup) (hi : X.N[i]? = some x) (hx : Loc X.env.scope x) (he : SN X W e p) (hs : swapsWith e (some (.Name x pos')) pos.line X.env = pure false := by rfl) (hf : X.fn x = true ∨ X.env.scope.names.lookup x = some .local := by first | exact .inl rfl | exact .inr rfl | assumption) :
    SS X W (.Assign [.Name x pos'] e pos) (sOwn i p) := PS.imp (ps_set hN hi hx he hs hf) (rs_own fun _ _ _ h => h)
/-- from a rule that makes a new list at a free place -/
theorem pgf_new {B : Bs} {σ : L2.St} {Z H : Hp} {e : En} {vs : List V} {ds : List D} {Q : VK} (R0 : Rl X.K B e σ Z H) (d : DqAll X.K Z vs ds) (h : PgF X.K X.mg W B σ Z (R.ok ds e) Q) : ∀ p, H p = none → Q (.ref p) (upd H p (.lst vs)) := fun p hp => by
  have zn : Z p = none := by
    cases q : Z p with
    | none => rfl
    | some u => rw [R0.sub p u q] at hp; cases hp
  refine h p vs Z _ (Same.refl _) (R0.new0 hp) upd_same zn ?_ (fun ow => ?_) d
  · cases hb : B.H p with
    | none => exact .inl rfl
    | some o =>
      by_cases hw : B.W p
      · exact .inr hw
      · rw [R0.keep p o hb hw] at hp; cases hp
  · obtain ⟨⟨u, hu⟩, _⟩ := R0.owns ow
    rw [hu] at hp; cases hp
def nLst (q : XA) : XI := fun e => (q e).bind fun ds e1 => if ds.length ≤ sizeLine then .ok ds e1 else .bad
theorem sn_lst {es : List Expr} {pos : Pos} {q : XA} (h : SA X W es q) : SN X W (.List es pos) (nLst q) := by
  refine PE.imp (pe_lst h) fun σ H Q ⟨B, e, Z, R0, hq⟩ => ?_
  refine rn_bind R0 hq fun v1 Z1 e1 d1 H1 s1 R1 D1 h1 => ?_
  split at h1
  · exact ⟨by rw [dpa_len D1]; assumption, pgf_new R1 D1 h1⟩
  · exact h1.elim

/-- return of a new list that nobody else has -/
def sRetN (p : XI) : XS := fun e => (p e).bind fun ds e1 => .ok (.rn ds) e1
theorem ss_retNew {x : Expr} {p : XI} (h : SN X W x p) : SS X W (.Return (some x) pos) (sRetN p) := by
  refine PS.imp (ps_ret h) fun Dn σ H ⟨B, e, Z, R0, hq⟩ => ⟨B, e, Z, R0, ?_⟩
  unfold sRetN at hq
  cases hp : p e with
  | ok ds e1 =>
    rw [hp] at hq
    exact fun a vs Z1 H1 s1 R1 h1 h2 h3 h4 h5 => hq a vs σ Z1 H1 s1 R1 h1 h2 h3 h4 h5
  | ex x e1 => rw [hp] at hq; exact fun c dd Z1 H1 s1 R1 x1 => hq c dd σ Z1 H1 s1 R1 x1
  | bad => rw [hp] at hq; exact hq
/-- a name's own list, handed on: the name has it no more -/
def nTake (i : Nat) : XI := fun e => match e[i]? with
  | some (.own none (.lst ds)) => .ok ds (e.set i .un)
  | _ => .bad
theorem sn_take {i : Nat} {x : Str} {p : Pos} (h : PE X (.Name x p) (tVar i)) : SN X W (.Name x p) (nTake i) := by
  refine PE.imp h fun σ H Q ⟨B, e, Z, R0, hq⟩ => ?_
  unfold nTake at hq
  split at hq
  · rename_i ds he
    obtain ⟨p, u, h1, h2, h3, ⟨vs, rfl, h4⟩, h5, _⟩ := R0.own he
    have ro : Rl X.K B (e.set i .un) σ Z H := by
      refine R0.env (by simp) fun j s x q1 q2 => ?_
      rcases get_set q1 with ⟨rfl, rfl⟩ | ⟨hj, q⟩
      · exact .inr ⟨trivial, fun _ _ z => nomatch z⟩
      · exact .inl q
    have no : ¬ Owns (e.set i .un) σ p := fun ⟨j, t', o', q1, q2⟩ => by
      rcases get_set q1 with ⟨rfl, z⟩ | ⟨hj, q⟩
      · cases z
      · exact hj (R0.owns_one q q2 he h1)
    exact ⟨_, h1, hq p vs Z H (Same.refl _) ro h2 h3 h5 no h4⟩
  · exact hq.elim

/-! ### comprehensions -/
def wipeE (e : En) : List Nat → En
  | [] => e
  | v :: vs => (wipeE e vs).set v .un
def back (e0 : En) (e : En) : List Nat → En
  | [] => e
  | v :: vs => (back e0 e vs).set v (match e0[v]? with | some (.dat d) => .dat d | _ => .un)
theorem Rl.wipe {K : Frag} {B : Bs} {e : En} {σ : L2.St} {Z H : Hp} (R : Rl K B e σ Z H) : ∀ vs : List Nat, Rl K B (wipeE e vs) (wipe σ vs) Z H
  | [] => R
  | v :: vs => by
    have R1 := R.wipe vs
    show Rl K B ((wipeE e vs).set v .un) ((L2.wipe σ vs).set v none) Z H
    refine ⟨by simp [R1.len], fun j s x h1 h2 => ?_, fun j k t u a b hjk h1 h2 => ?_, R1.sub, R1.zup, R1.keep, R1.zfr⟩
    · rcases get_set h1 with ⟨rfl, rfl⟩ | ⟨hj, q⟩
      · trivial
      · rcases get_set h2 with ⟨rfl, _⟩ | ⟨_, q2⟩
        · exact absurd rfl hj
        · exact R1.ok j s x q q2
    · rcases get_set h1 with ⟨_, z⟩ | ⟨hj, q1⟩
      · cases z
      · rcases get_set h2 with ⟨_, z⟩ | ⟨hk, q2⟩
        · cases z
        · rw [List.getElem?_set_ne (Ne.symm hj), List.getElem?_set_ne (Ne.symm hk)]
          exact R1.sep j k t u a b hjk q1 q2
theorem wipe_get {σ : L2.St} {i : Nat} : ∀ {vs : List Nat}, i ∉ vs → (wipe σ vs)[i]? = σ[i]?
  | [], _ => rfl
  | v :: vs, h => by
    show ((wipe σ vs).set v none)[i]? = _
    rw [List.getElem?_set_ne (fun z => h (by simp [z]))]
    exact wipe_get fun z => h (by simp [z])
theorem back_len {e0 e : En} : ∀ vs : List Nat, (back e0 e vs).length = e.length
  | [] => rfl
  | v :: vs => by
    show ((back e0 e vs).set v _).length = _
    rw [List.length_set, back_len vs]
theorem back_get {e0 e : En} {i : Nat} {s : Sl} : ∀ {vs : List Nat}, (back e0 e vs)[i]? = some s → (i ∉ vs ∧ e[i]? = some s) ∨ (∃ d, e0[i]? = some (.dat d) ∧ s = .dat d) ∨ s = .un
  | [], h => .inl ⟨by simp, h⟩
  | v :: vs, h => by
    rcases get_set (show ((back e0 e vs).set v _)[i]? = some s from h) with ⟨rfl, rfl⟩ | ⟨hj, q⟩
    · split
      · rename_i d hd
        exact .inr (.inl ⟨d, hd, rfl⟩)
      · exact .inr (.inr rfl)
    · rcases back_get q with ⟨h1, h2⟩ | h1
      · exact .inl ⟨by simp [hj, h1], h2⟩
      · exact .inr h1
/-- behind a comprehension: its names are forgotten, what they held ahead is there again -/
theorem Rl.back {K : Frag} {B B0 : Bs} {e0 e : En} {σ : L2.St} {Z0 H0 Z H : Hp} {vs : List Nat} (R0 : Rl K B0 e0 σ Z0 H0) (R : Rl K B e (L2.wipe σ vs) Z H) (s : Same Z0 Z) : Rl K B (G.back e0 e vs) σ Z H := by
  refine ⟨by rw [back_len, R.len, wipe_length], fun i sl x h1 h2 => ?_, fun i j t u a b hij h1 h2 => ?_, R.sub, R.zup, R.keep, R.zfr⟩
  · rcases back_get h1 with ⟨hn, q⟩ | ⟨d, q, rfl⟩ | rfl
    · exact R.ok i sl x q ((wipe_get hn).trans h2)
    · obtain ⟨v, e1, e2⟩ := R0.ok i _ x q h2
      exact ⟨v, e1, dp_mono s e2⟩
    · trivial
  · rcases back_get h1 with ⟨hn, q⟩ | ⟨d, q, z⟩ | z
    · rcases back_get h2 with ⟨hn2, q2⟩ | ⟨d, q2, z⟩ | z
      · rw [← wipe_get (σ := σ) hn, ← wipe_get (σ := σ) hn2]
        exact R.sep i j t u a b hij q q2
      · cases z
      · cases z
    · cases z
    · cases z
abbrev WF : WX := fun _ _ _ _ => False
def lcGo (t : XG) (c : XT) (x : XE) (vs : List Nat) : List D → En → List D → R (List D)
  | [], e, acc => .ok acc e
  | d :: ds, e, acc => match t d e with
    | none => .bad
    | some e1 => (c e1).noex.bind fun b e2 => if b = true then (x e2).noex.bind fun y e3 => lcGo t c x vs ds (wipeE e3 vs) (acc ++ [y]) else lcGo t c x vs ds (wipeE e2 vs) acc
def nLc (pi : XI) (t : XG) (c : XT) (x : XE) (vs : List Nat) : XI := fun e => (pi e).bind fun ds e1 => if ds.length < sizeLine then (lcGo t c x vs ds (wipeE e1 vs) []).bind fun acc e2 => .ok acc (back e1 e2 vs) else .bad
abbrev STs (X : Cx) (ifs : List Expr) (p : XT) : Prop := PTs X ifs (RT X.K X.mg WF p)
theorem PTs.imp {X : Cx} {e : List Expr} {t t' : TT} (h : PTs X e t) (f : ∀ σ H Q, t' σ H Q → t σ H Q) : PTs X e t' := ⟨fun pins s σ H Q I hq => h.run pins s σ H Q I (f σ H Q hq)⟩
theorem sts_nil : STs X [] (fun e => .ok true e) := PTs.imp pts_nil fun σ H Q ⟨B, e, Z, R0, hq⟩ => hq _ Z H (Same.refl _) R0 rfl
theorem sts_one {c : Expr} {p : XT} (h : ST X WF c p) : STs X [c] p := pts_one h
theorem rn_bindX {α β : Type} {K : Frag} {mg : Str → Option Value} {B B' : Bs} {σ σ' : L2.St} {Z H : Hp} {e : En} {vr : Hp → β → α → Prop} {p : En → R α} {k : α → En → R (List D)} {Q : VK} {Q' : β → Hp → Prop} (R0 : Rl K B' e σ' Z H) (h : PgF K mg W B σ Z ((p e).noex.bind k) Q)
    (f : ∀ x Z1 e1 a H1, Same Z Z1 → Rl K B' e1 σ' Z1 H1 → vr Z1 x a → PgF K mg W B σ Z1 (k a e1) Q → Q' x H1) : Rg K mg WF vr p σ' H Q' := by
  refine ⟨B', e, Z, R0, ?_⟩
  cases hp : p e with
  | ok a e1 =>
    rw [hp] at h
    exact fun b Z1 H1 s1 R1 v => f b Z1 e1 a H1 s1 R1 v (PgF.up s1 h)
  | ex x e1 =>
    rw [hp] at h
    exact h.elim
  | bad =>
    rw [hp] at h
    exact h
theorem wipe_get_in {σ : L2.St} {i : Nat} : ∀ {vs : List Nat}, i ∈ vs → (L2.wipe σ vs)[i]? = if i < σ.length then some none else none
  | v :: vs, h => by
    show ((L2.wipe σ vs).set v none)[i]? = _
    by_cases hv : v = i
    · subst hv
      by_cases hl : v < σ.length
      · rw [List.getElem?_set_self (by rw [wipe_length]; exact hl), if_pos hl]
      · rw [List.getElem?_eq_none (by rw [List.length_set, wipe_length]; omega), if_neg hl]
    · rw [List.getElem?_set_ne hv]
      exact wipe_get_in (List.mem_of_ne_of_mem (Ne.symm hv) h)
theorem wipe_eq {σ σ' : L2.St} {vs is : List Nat} (hi : ∀ i ∈ is, i ∈ vs) (hl : σ'.length = (L2.wipe σ vs).length) (hf : ∀ i, i ∉ is → σ'[i]? = (L2.wipe σ vs)[i]?) : L2.wipe σ' vs = L2.wipe σ vs := by
  rw [wipe_length] at hl
  refine List.ext_getElem? fun i => ?_
  by_cases h : i ∈ vs
  · rw [wipe_get_in h, wipe_get_in h, hl]
  · rw [wipe_get h, hf i fun z => h (hi i z)]
theorem Rl.noOwn {K : Frag} {B : Bs} {e : En} {σ : L2.St} {Z H : Hp} (R : Rl K B e σ Z H) {p : Addr} (h : H p = none) : ¬ Owns e σ p := fun ow => by
  obtain ⟨⟨u, hu⟩, _⟩ := R.owns ow
  rw [hu] at h; cases h
theorem Rl.noZ {K : Frag} {B : Bs} {e : En} {σ : L2.St} {Z H : Hp} (R : Rl K B e σ Z H) {p : Addr} (h : H p = none) : Z p = none := by
  cases q : Z p with
  | none => rfl
  | some u => rw [R.sub p u q] at h; cases h
theorem Rl.fresh {K : Frag} {B : Bs} {e : En} {σ : L2.St} {Z H : Hp} (R : Rl K B e σ Z H) {p : Addr} (h : H p = none) : B.H p = none ∨ B.W p := by
  cases hb : B.H p with
  | none => exact .inl rfl
  | some o =>
    by_cases hw : B.W p
    · exact .inr hw
    · rw [R.keep p o hb hw] at h; cases h
theorem lc_imp {pi : XI} {t : XG} {c : XT} {x : XE} {vs is : List Nat} (his : ∀ i ∈ is, i ∈ vs) {σ : L2.St} {H : Hp} {Q : VK} (h : RN X.K X.mg W (nLc pi t c x vs) σ H Q) :
    tLc (RI X.K X.mg W pi) (RG X.K is t) (RT X.K X.mg WF c) (RE X.K X.mg WF x) vs σ H Q := by
  obtain ⟨B, e, Z, R0, hq⟩ := h
  refine rn_bind R0 hq fun J Z1 e1 ds H1 s1 R1 w h1 => ?_
  split at h1
  case isFalse => exact h1.elim
  rename_i hsz
  intro Dd hD
  have hb := R1.fresh hD
  have Rw := R1.wipe vs
  refine ⟨fun i m H => m = ds.length - i ∧ i ≤ ds.length ∧ ∃ e' Z' acc vacc, Same Z1 Z' ∧ Rl X.K B e' (L2.wipe σ vs) Z' H ∧ H Dd = some (.lst vacc) ∧ Z' Dd = none ∧ ¬ Owns e' (L2.wipe σ vs) Dd ∧ DqAll X.K Z' vacc acc ∧ acc.length ≤ i ∧
      PgF X.K X.mg W B σ Z' ((lcGo t c x vs (ds.drop i) e' acc).bind fun acc e2 => .ok acc (back e1 e2 vs)) Q,
    ⟨ds.length, by simp, Nat.zero_le _, _, Z1, [], [], Same.refl _, Rw.new0 hD, upd_same, R1.noZ hD, Rw.noOwn hD, .nil, Nat.le_refl _, h1⟩, ?_⟩
  rintro i m H ⟨rfl, hi, e2, Z2, acc, vacc, s2, R2, hDd, hz2, hn2, da2, hl2, h2⟩
  by_cases hlt : i < ds.length
  · refine .inr ⟨w.goes i H hlt (s2.trans R2.sub), fun H' => (i + 1 ≤ ds.length ∧ ∃ e' Z' acc vacc, Same Z1 Z' ∧ Rl X.K B e' (L2.wipe σ vs) Z' H' ∧ H' Dd = some (.lst vacc) ∧ Z' Dd = none ∧ ¬ Owns e' (L2.wipe σ vs) Dd ∧ DqAll X.K Z' vacc acc ∧ acc.length ≤ i + 1 ∧
      PgF X.K X.mg W B σ Z' ((lcGo t c x vs (ds.drop (i + 1)) e' acc).bind fun acc e2 => .ok acc (back e1 e2 vs)) Q), fun H' h => ⟨ds.length - (i + 1), by omega, rfl, h⟩, fun v H' hy => ?_⟩
    have Rb := R2.rebase
    obtain ⟨Z3, d, s3, R3, hd, D3⟩ := w.ylds i H v H' _ e2 _ Z2 hlt s2 Rb hy
    have ed : ds.drop i = d :: ds.drop (i + 1) := by
      rw [List.drop_eq_getElem_cons hlt]
      congr 1
      rw [List.getElem?_eq_getElem hlt] at hd
      exact Option.some.inj hd
    rw [ed] at h2
    unfold lcGo at h2
    cases ht : t d e2 with
    | none =>
      simp only [ht] at h2
      exact h2.elim
    | some e3 =>
      simp only [ht] at h2
      refine ⟨_, e2, Z3, d, e3, R3, D3, ht, fun σ4 R4 l4 f4 => ?_⟩
      have we := wipe_eq his l4 f4
      refine ⟨we, ?_⟩
      have h2' := PgF.up s3 h2
      have e5 : ∀ (r : R Bool) (k : Bool → En → R (List D)) (k2 : List D → En → R (List D)), (r.bind k).bind k2 = r.bind fun a e => (k a e).bind k2 := fun r k k2 => by cases r <;> rfl
      rw [e5] at h2'
      -- a state as it was made within the turn comes back
      have home : ∀ {e6 : En} {Z6 H6 : Hp}, Rl X.K (B.at e2 (L2.wipe σ vs) Z2 H) e6 σ4 Z6 H6 → Rl X.K B (wipeE e6 vs) (L2.wipe σ vs) Z6 H6 ∧ H6 Dd = some (.lst vacc) ∧ Z6 Dd = none ∧ ¬ Owns (wipeE e6 vs) (L2.wipe σ vs) Dd := fun {e6 Z6 H6} R6 => by
        have R7 := R6.wipe vs
        rw [we] at R7
        have k := Rl.kept R6 hDd hn2
        exact ⟨R2.unbase R7, k.1, k.2.trans hz2, Rl.young R7 hDd hn2⟩
      refine rn_bindX R4 h2' fun b Z5 e5 b' H5 s5 R5 hbb h5 => ?_
      subst hbb
      cases b with
      | false =>
        obtain ⟨g1, g2, g3, g4⟩ := home R5
        exact ⟨hlt, _, Z5, acc, vacc, (s2.trans s3).trans s5, g1, g2, g3, g4, dpa_mono (s3.trans s5) da2, by omega, h5⟩
      | true =>
        simp only [if_true] at h5 ⊢
        have e5' : ∀ (r : R D) (k : D → En → R (List D)) (k2 : List D → En → R (List D)), (r.bind k).bind k2 = r.bind fun a e => (k a e).bind k2 := fun r k k2 => by cases r <;> rfl
        rw [e5'] at h5
        refine rn_bindX R5 h5 fun y Z6 e6 dy H6 s6 R6 D6 h6 => ?_
        obtain ⟨g1, g2, g3, g4⟩ := home R6
        have sz := dpa_len da2
        refine ⟨vacc, g2, by omega, hlt, _, Z6, acc ++ [dy], vacc ++ [y], ((s2.trans s3).trans s5).trans s6, g1.wr g3 hb g4, upd_same, g3, g4, dpa_app (dpa_mono ((s3.trans s5).trans s6) da2) (.cons D6 .nil), by simp; omega, h6⟩
  · have ei : i = ds.length := by omega
    subst ei
    refine .inl ⟨w.stops H (s2.trans R2.sub), ?_⟩
    rw [List.drop_length] at h2
    have Rk := Rl.back R1 R2 s2
    have nb : ¬ Owns (back e1 e2 vs) σ Dd := fun ⟨j, t', o', q1, q2⟩ => by
      rcases back_get q1 with ⟨hj, q⟩ | ⟨d, q, z⟩ | z
      · exact hn2 ⟨j, t', o', q, (wipe_get hj).trans q2⟩
      · cases z
      · cases z
    exact h2 Dd vacc Z2 H (Same.refl _) Rk hDd hz2 hb nb da2
theorem sn_lc {elt tg iter : Expr} {ifs : List Expr} {scope : Scope} {own : List (Str × Nat)} {pos : Pos} {pi : XI} {t : XG} {is : List Nat} {c : XT} {x : XE} (hc : X.calm = true) (hN : X.N.Nodup) (hi : SI X W tg iter pi) (ok : BlkOk X.N X.env.scope scope own) (his : ∀ i ∈ is, i ∈ own.map (·.2))
    (hg : ∀ (s : Shared) (H : Hp) (C : Addr) (cl : List (Str × Addr)) (fp : List Addr), SG (X.blk s H scope (compEnvC scope cl C X.env) fp) tg is t) (ht : ∀ (s : Shared) (H : Hp) (C : Addr) (cl : List (Str × Addr)) (fp : List Addr), STs (X.blk s H scope (compEnvC scope cl C X.env) fp) ifs c)
    (he : ∀ (s : Shared) (H : Hp) (C : Addr) (cl : List (Str × Addr)) (fp : List Addr), SE (X.blk s H scope (compEnvC scope cl C X.env) fp) WF elt x) (hs : ∀ x, foldedSetIterable iter X.env x = pure x := by intro _; rfl) :
    SN X W (.ListComp elt [⟨tg, iter, ifs, 0⟩] scope pos) (nLc pi t c x (own.map (·.2))) :=
  PE.imp (pe_lc hc hN hi ok hg ht he hs) fun _ _ _ => lc_imp his
theorem ss_setLc {i : Nat} {y : Str} {py : Pos} {elt tg iter : Expr} {ifs : List Expr} {scope : Scope} {own : List (Str × Nat)} {pos spos : Pos} {pi : XI} {t : XG} {is : List Nat} {c : XT} {x : XE} (hc : X.calm = true) (hN : X.N.Nodup) (hy : X.N[i]? = some y) (hyl : X.env.scope.names.lookup y = some .local)
    (hsw : swapsWith (.ListComp elt [⟨tg, iter, ifs, 0⟩] scope pos) (some (.Name y py)) spos.line X.env = pure true) (hi : SI X W tg iter pi) (ok : BlkOk X.N X.env.scope scope own) (his : ∀ i ∈ is, i ∈ own.map (·.2))
    (hg : ∀ (s : Shared) (H : Hp) (C : Addr) (cl : List (Str × Addr)) (fp : List Addr), SG (X.blk s H scope (compEnvC scope cl C X.env) fp) tg is t) (ht : ∀ (s : Shared) (H : Hp) (C : Addr) (cl : List (Str × Addr)) (fp : List Addr), STs (X.blk s H scope (compEnvC scope cl C X.env) fp) ifs c)
    (he : ∀ (s : Shared) (H : Hp) (C : Addr) (cl : List (Str × Addr)) (fp : List Addr), SE (X.blk s H scope (compEnvC scope cl C X.env) fp) WF elt x) (hs : ∀ x, foldedSetIterable iter X.env x = pure x := by intro _; rfl) :
    SS X W (.Assign [.Name y py] (.ListComp elt [⟨tg, iter, ifs, 0⟩] scope pos) spos) (sSet i (eNew (nLc pi t c x (own.map (·.2))))) :=
  PS.imp (ps_setLc hc hN hy hyl hsw hi ok hg ht he hs) (rs_set fun _ _ _ h => lc_imp his (rn_val h))
theorem ss_ownLc {i : Nat} {y : Str} {py : Pos} {elt tg iter : Expr} {ifs : List Expr} {scope : Scope} {own : List (Str × Nat)} {pos spos : Pos} {pi : XI} {t : XG} {is : List Nat} {c : XT} {x : XE} (hc : X.calm = true) (hN : X.N.Nodup) (hy : X.N[i]? = some y) (hyl : X.env.scope.names.lookup y = some .local)
    (hsw : swapsWith (.ListComp elt [⟨tg, iter, ifs, 0⟩] scope pos) (some (.Name y py)) spos.line X.env = pure true) (hi : SI X W tg iter pi) (ok : BlkOk X.N X.env.scope scope own) (his : ∀ i ∈ is, i ∈ own.map (·.2))
    (hg : ∀ (s : Shared) (H : Hp) (C : Addr) (cl : List (Str × Addr)) (fp : List Addr), SG (X.blk s H scope (compEnvC scope cl C X.env) fp) tg is t) (ht : ∀ (s : Shared) (H : Hp) (C : Addr) (cl : List (Str × Addr)) (fp : List Addr), STs (X.blk s H scope (compEnvC scope cl C X.env) fp) ifs c)
    (he : ∀ (s : Shared) (H : Hp) (C : Addr) (cl : List (Str × Addr)) (fp : List Addr), SE (X.blk s H scope (compEnvC scope cl C X.env) fp) WF elt x) (hs : ∀ x, foldedSetIterable iter X.env x = pure x := by intro _; rfl) :
    SS X W (.Assign [.Name y py] (.ListComp elt [⟨tg, iter, ifs, 0⟩] scope pos) spos) (sOwn i (nLc pi t c x (own.map (·.2)))) :=
  PS.imp (ps_setLc hc hN hy hyl hsw hi ok hg ht he hs) (rs_own fun _ _ _ h => lc_imp his h)
end
end G
set_option Elab.async false
set_option linter.all false
set_option maxRecDepth 100000
namespace G
open PySem PySem.Spec PyProof.Rows L2
section
variable {X : Cx} {W : WX} {pos : Pos}
theorem R.bind_assoc {α β γ : Type} (r : R α) (k : α → En → R β) (k2 : β → En → R γ) : (r.bind k).bind k2 = r.bind fun a e => (k a e).bind k2 := by cases r <;> rfl
/-! ### two fors -/
def lc2Go (t : XG) (c : XT) (pi1 : XI) (t1 : XG) (c1 : XT) (x : XE) (vs vs1 : List Nat) : List D → En → List D → R (List D)
  | [], e, acc => .ok acc e
  | d :: ds, e, acc => match t d e with
    | none => .bad
    | some e1 => (c e1).noex.bind fun b e2 => if b = true then
        (pi1 e2).noex.bind fun ds1 e3 => if acc.length + ds1.length < sizeLine then (lcGo t1 c1 x vs1 ds1 (wipeE e3 vs1) acc).bind fun acc' e4 => lc2Go t c pi1 t1 c1 x vs vs1 ds (wipeE e4 vs) acc' else .bad
      else lc2Go t c pi1 t1 c1 x vs vs1 ds (wipeE e2 vs) acc
def nLc2 (pi : XI) (t : XG) (c : XT) (pi1 : XI) (t1 : XG) (c1 : XT) (x : XE) (vs vs1 : List Nat) : XI := fun e => (pi e).bind fun ds e1 => (lc2Go t c pi1 t1 c1 x vs vs1 ds (wipeE e1 vs) []).bind fun acc e2 => .ok acc (back e1 e2 vs)
theorem wipe_wipe {σ σ2 : L2.St} {vs vs1 : List Nat} (h1 : ∀ i ∈ vs1, i ∈ vs) (h : L2.wipe σ2 vs = L2.wipe σ vs) : L2.wipe (L2.wipe σ2 vs1) vs = L2.wipe σ vs := by
  rw [← h]
  refine List.ext_getElem? fun i => ?_
  by_cases hi : i ∈ vs
  · rw [wipe_get_in hi, wipe_get_in hi, wipe_length]
  · rw [wipe_get hi, wipe_get hi, wipe_get fun z => hi (h1 i z)]
theorem drop_at {ds : List D} {i : Nat} {d : D} (hlt : i < ds.length) (hd : ds[i]? = some d) : ds.drop i = d :: ds.drop (i + 1) := by
  rw [List.drop_eq_getElem_cons hlt]
  congr 1
  rw [List.getElem?_eq_getElem hlt] at hd
  exact Option.some.inj hd
theorem lc2_imp {pi pi1 : XI} {t t1 : XG} {c c1 : XT} {x : XE} {vs vs1 is is1 : List Nat} (his : ∀ i ∈ is, i ∈ vs) (his1 : ∀ i ∈ is1, i ∈ vs1) (hvs : ∀ i ∈ vs1, i ∈ vs) {σ : L2.St} {H : Hp} {Q : VK} (h : RN X.K X.mg W (nLc2 pi t c pi1 t1 c1 x vs vs1) σ H Q) :
    tLc2 (RI X.K X.mg W pi) (RG X.K is t) (RT X.K X.mg WF c) (RI X.K X.mg WF pi1) (RG X.K is1 t1) (RT X.K X.mg WF c1) (RE X.K X.mg WF x) vs vs1 σ H Q := by
  obtain ⟨B, e, Z, R0, hq⟩ := h
  refine rn_bind R0 hq fun J Z1 e1 ds H1 s1 R1 w h1 => ?_
  intro Dd hD
  have hb := R1.fresh hD
  have Rw := R1.wipe vs
  refine ⟨fun i m H => m = ds.length - i ∧ i ≤ ds.length ∧ ∃ e' Z' acc vacc, Same Z1 Z' ∧ Rl X.K B e' (L2.wipe σ vs) Z' H ∧ H Dd = some (.lst vacc) ∧ Z' Dd = none ∧ ¬ Owns e' (L2.wipe σ vs) Dd ∧ DqAll X.K Z' vacc acc ∧
      PgF X.K X.mg W B σ Z' ((lc2Go t c pi1 t1 c1 x vs vs1 (ds.drop i) e' acc).bind fun acc e2 => .ok acc (back e1 e2 vs)) Q,
    ⟨ds.length, by simp, Nat.zero_le _, _, Z1, [], [], Same.refl _, Rw.new0 hD, upd_same, R1.noZ hD, Rw.noOwn hD, .nil, h1⟩, ?_⟩
  rintro i m H ⟨rfl, hi, e2, Z2, acc, vacc, s2, R2, hDd, hz2, hn2, da2, h2⟩
  by_cases hlt : i < ds.length
  · refine .inr ⟨w.goes i H hlt (s2.trans R2.sub), fun H' => (i + 1 ≤ ds.length ∧ ∃ e' Z' acc vacc, Same Z1 Z' ∧ Rl X.K B e' (L2.wipe σ vs) Z' H' ∧ H' Dd = some (.lst vacc) ∧ Z' Dd = none ∧ ¬ Owns e' (L2.wipe σ vs) Dd ∧ DqAll X.K Z' vacc acc ∧
      PgF X.K X.mg W B σ Z' ((lc2Go t c pi1 t1 c1 x vs vs1 (ds.drop (i + 1)) e' acc).bind fun acc e2 => .ok acc (back e1 e2 vs)) Q), fun H' h => ⟨ds.length - (i + 1), by omega, rfl, h⟩, fun v H' hy => ?_⟩
    have Rb := R2.rebase
    obtain ⟨Z3, d, s3, R3, hd, D3⟩ := w.ylds i H v H' _ e2 _ Z2 hlt s2 Rb hy
    rw [drop_at hlt hd] at h2
    unfold lc2Go at h2
    cases ht : t d e2 with
    | none =>
      simp only [ht] at h2
      exact h2.elim
    | some e3 =>
      simp only [ht] at h2
      refine ⟨_, e2, Z3, d, e3, R3, D3, ht, fun σ4 R4 l4 f4 => ?_⟩
      have we := wipe_eq his l4 f4
      refine ⟨we, ?_⟩
      have h2' := PgF.up s3 h2
      rw [R.bind_assoc] at h2'
      -- a state as it was made within the turn comes back
      have home : ∀ {e6 : En} {Z6 H6 : Hp} {σ6 : L2.St}, L2.wipe σ6 vs = L2.wipe σ vs → Rl X.K (B.at e2 (L2.wipe σ vs) Z2 H) e6 σ6 Z6 H6 → Rl X.K B (wipeE e6 vs) (L2.wipe σ vs) Z6 H6 := fun {e6 Z6 H6 σ6} w6 R6 => by
        have R7 := R6.wipe vs
        rw [w6] at R7
        exact R2.unbase R7
      refine rn_bindX R4 h2' fun b Z5 e5 b' H5 s5 R5 hbb h5 => ?_
      subst hbb
      have k5 := Rl.kept R5 hDd hn2
      have y5 : ¬ Owns e5 σ4 Dd := Rl.young R5 hDd hn2
      cases b with
      | false =>
        have y5' : ¬ Owns (wipeE e5 vs) (L2.wipe σ vs) Dd := by
          have R7 := R5.wipe vs
          rw [we] at R7
          exact Rl.young R7 hDd hn2
        exact ⟨hlt, _, Z5, acc, vacc, (s2.trans s3).trans s5, home we R5, k5.1, k5.2.trans hz2, y5', dpa_mono (s3.trans s5) da2, h5⟩
      | true =>
        simp only [if_true] at h5 ⊢
        rw [R.bind_assoc] at h5
        refine rn_bindX R5 h5 fun J1 Z6 e6 ds1 H6 s6 R6 w6 h6 => ?_
        split at h6
        case isFalse => exact h6.elim
        rename_i hsz
        have Rw1 := R6.wipe vs1
        have k6 := Rl.kept R6 hDd hn2
        have y6 : ¬ Owns (wipeE e6 vs1) (L2.wipe σ4 vs1) Dd := Rl.young Rw1 hDd hn2
        -- the inner loop over the turn's base, the list at Dd apart
        have B1 : Bs := B
        refine ⟨fun j k H => k = ds1.length - j ∧ j ≤ ds1.length ∧ ∃ e' Z' acc' vacc', Same Z6 Z' ∧ Rl X.K B (wipeE e' []) (L2.wipe σ4 vs1) Z' H ∧ H Dd = some (.lst vacc') ∧ Z' Dd = none ∧ ¬ Owns e' (L2.wipe σ4 vs1) Dd ∧ DqAll X.K Z' vacc' acc' ∧ acc'.length ≤ acc.length + j ∧
          PgF X.K X.mg W B σ Z' (((lcGo t1 c1 x vs1 (ds1.drop j) e' acc').bind fun acc' e4 => lc2Go t c pi1 t1 c1 x vs vs1 (ds.drop (i + 1)) (wipeE e4 vs) acc').bind fun acc e2 => .ok acc (back e1 e2 vs)) Q,
          ⟨ds1.length, by simp, Nat.zero_le _, _, Z6, acc, vacc, Same.refl _, R2.unbase Rw1, k6.1, k6.2.trans hz2, y6, dpa_mono ((s3.trans s5).trans s6) da2, Nat.le_refl _, h6⟩, ?_⟩
        rintro j k H ⟨rfl, hj, e7, Z7, acc7, vacc7, s7, R7, hD7, hz7, hn7, da7, hl7, h7⟩
        have R7' : Rl X.K B e7 (L2.wipe σ4 vs1) Z7 H := R7
        by_cases hlj : j < ds1.length
        · refine .inr ⟨w6.goes j H hlj (s7.trans R7'.sub), fun H' => (j + 1 ≤ ds1.length ∧ ∃ e' Z' acc' vacc', Same Z6 Z' ∧ Rl X.K B (wipeE e' []) (L2.wipe σ4 vs1) Z' H' ∧ H' Dd = some (.lst vacc') ∧ Z' Dd = none ∧ ¬ Owns e' (L2.wipe σ4 vs1) Dd ∧ DqAll X.K Z' vacc' acc' ∧ acc'.length ≤ acc.length + (j + 1) ∧
            PgF X.K X.mg W B σ Z' (((lcGo t1 c1 x vs1 (ds1.drop (j + 1)) e' acc').bind fun acc' e4 => lc2Go t c pi1 t1 c1 x vs vs1 (ds.drop (i + 1)) (wipeE e4 vs) acc').bind fun acc e2 => .ok acc (back e1 e2 vs)) Q), fun H' h => ⟨ds1.length - (j + 1), by omega, rfl, h⟩, fun v H' hy => ?_⟩
          have Rb := R7'.rebase
          obtain ⟨Z8, d8, s8, R8, hd8, D8⟩ := w6.ylds j H v H' _ e7 _ Z7 hlj s7 Rb hy
          rw [drop_at hlj hd8] at h7
          unfold lcGo at h7
          cases ht : t1 d8 e7 with
          | none =>
            simp only [ht] at h7
            exact h7.elim
          | some e8 =>
            simp only [ht] at h7
            refine ⟨_, e7, Z8, d8, e8, R8, D8, ht, fun σ9 R9 l9 f9 => ?_⟩
            have we9 := wipe_eq his1 l9 f9
            refine ⟨we9, ?_⟩
            have h7' := PgF.up s8 h7
            rw [R.bind_assoc, R.bind_assoc] at h7'
            have home1 : ∀ {e6 : En} {Z6 H6 : Hp}, Rl X.K (B.at e7 (L2.wipe σ4 vs1) Z7 H) e6 σ9 Z6 H6 → Rl X.K B (wipeE e6 vs1) (L2.wipe σ4 vs1) Z6 H6 ∧ H6 Dd = some (.lst vacc7) ∧ Z6 Dd = none ∧ ¬ Owns (wipeE e6 vs1) (L2.wipe σ4 vs1) Dd := fun {e6 Z6 H6} R6 => by
              have R7 := R6.wipe vs1
              rw [we9] at R7
              have k := Rl.kept R6 hD7 hn7
              exact ⟨R7'.unbase R7, k.1, k.2.trans hz7, Rl.young R7 hD7 hn7⟩
            refine rn_bindX R9 h7' fun b ZA eA b' HA sA RA hbb hA => ?_
            subst hbb
            cases b with
            | false =>
              obtain ⟨g1, g2, g3, g4⟩ := home1 RA
              exact ⟨hlj, _, ZA, acc7, vacc7, (s7.trans s8).trans sA, g1, g2, g3, g4, dpa_mono (s8.trans sA) da7, by omega, by rw [R.bind_assoc]; exact hA⟩
            | true =>
              simp only [if_true] at hA ⊢
              rw [R.bind_assoc] at hA
              refine rn_bindX RA hA fun y ZC eC dy HC sC RC DC hC => ?_
              obtain ⟨g1, g2, g3, g4⟩ := home1 RC
              have sz := dpa_len da7
              refine ⟨vacc7, g2, by omega, hlj, _, ZC, acc7 ++ [dy], vacc7 ++ [y], ((s7.trans s8).trans sA).trans sC, g1.wr g3 hb g4, upd_same, g3, g4, dpa_app (dpa_mono ((s8.trans sA).trans sC) da7) (.cons DC .nil), by simp; omega, ?_⟩
              rw [R.bind_assoc]
              exact hC
        · have ej : j = ds1.length := by omega
          subst ej
          refine .inl ⟨w6.stops H (s7.trans R7'.sub), ?_⟩
          rw [List.drop_length] at h7
          have ww : L2.wipe (L2.wipe σ4 vs1) vs = L2.wipe σ vs := wipe_wipe hvs we
          have R9 := R7'.wipe vs
          rw [ww] at R9
          have n9 : ¬ Owns (wipeE e7 vs) (L2.wipe σ vs) Dd := by
            have Rz := (R7'.rebase).wipe vs
            rw [ww] at Rz
            exact Rl.young Rz hD7 hn7
          exact ⟨hlt, _, Z7, acc7, vacc7, (((s2.trans s3).trans s5).trans s6).trans s7, R9, hD7, hz7, n9, da7, h7⟩
  · have ei : i = ds.length := by omega
    subst ei
    refine .inl ⟨w.stops H (s2.trans R2.sub), ?_⟩
    rw [List.drop_length] at h2
    have Rk := Rl.back R1 R2 s2
    have nb : ¬ Owns (back e1 e2 vs) σ Dd := fun ⟨j, t', o', q1, q2⟩ => by
      rcases back_get q1 with ⟨hj, q⟩ | ⟨d, q, z⟩ | z
      · exact hn2 ⟨j, t', o', q, (wipe_get hj).trans q2⟩
      · cases z
      · cases z
    exact h2 Dd vacc Z2 H (Same.refl _) Rk hDd hz2 hb nb da2
theorem sn_lc2 {elt tg iter tg1 iter1 : Expr} {ifs ifs1 : List Expr} {scope : Scope} {own : List (Str × Nat)} {vs1 : List Nat} {pos : Pos} {pi pi1 : XI} {t t1 : XG} {is is1 : List Nat} {c c1 : XT} {x : XE} (hc : X.calm = true) (hN : X.N.Nodup) (hi : SI X W tg iter pi) (ok : BlkOk X.N X.env.scope scope own)
    (hv : ∀ i ∈ vs1, i ∈ own.map (·.2)) (his : ∀ i ∈ is, i ∈ own.map (·.2)) (his1 : ∀ i ∈ is1, i ∈ vs1)
    (hg : ∀ (s : Shared) (H : Hp) (C : Addr) (cl : List (Str × Addr)) (fp : List Addr), SG (X.blk s H scope (compEnvC scope cl C X.env) fp) tg is t) (ht : ∀ (s : Shared) (H : Hp) (C : Addr) (cl : List (Str × Addr)) (fp : List Addr), STs (X.blk s H scope (compEnvC scope cl C X.env) fp) ifs c)
    (hi1 : ∀ (s : Shared) (H : Hp) (C : Addr) (cl : List (Str × Addr)) (fp : List Addr), SI (X.blk s H scope (compEnvC scope cl C X.env) fp) WF tg1 iter1 pi1)
    (hg1 : ∀ (s : Shared) (H : Hp) (C : Addr) (cl : List (Str × Addr)) (fp : List Addr), SG (X.blk s H scope (compEnvC scope cl C X.env) fp) tg1 is1 t1) (ht1 : ∀ (s : Shared) (H : Hp) (C : Addr) (cl : List (Str × Addr)) (fp : List Addr), STs (X.blk s H scope (compEnvC scope cl C X.env) fp) ifs1 c1)
    (he : ∀ (s : Shared) (H : Hp) (C : Addr) (cl : List (Str × Addr)) (fp : List Addr), SE (X.blk s H scope (compEnvC scope cl C X.env) fp) WF elt x) (hs : ∀ x, foldedSetIterable iter X.env x = pure x := by intro _; rfl) (hs1 : ∀ env x, foldedSetIterable iter1 env x = pure x := by intro _ _; rfl) :
    SN X W (.ListComp elt [⟨tg, iter, ifs, 0⟩, ⟨tg1, iter1, ifs1, 0⟩] scope pos) (nLc2 pi t c pi1 t1 c1 x (own.map (·.2)) vs1) :=
  PE.imp (pe_lc2 hc hN hi ok hv hg ht hi1 hg1 ht1 he hs hs1) fun _ _ _ => lc2_imp his his1 hv
theorem ss_setLc2 {i : Nat} {y : Str} {py : Pos} {elt tg iter tg1 iter1 : Expr} {ifs ifs1 : List Expr} {scope : Scope} {own : List (Str × Nat)} {vs1 : List Nat} {pos spos : Pos} {pi pi1 : XI} {t t1 : XG} {is is1 : List Nat} {c c1 : XT} {x : XE} (hc : X.calm = true) (hN : X.N.Nodup) (hy : X.N[i]? = some y) (hyl : X.env.scope.names.lookup y = some .local)
    (hsw : swapsWith (.ListComp elt [⟨tg, iter, ifs, 0⟩, ⟨tg1, iter1, ifs1, 0⟩] scope pos) (some (.Name y py)) spos.line X.env = pure true) (hi : SI X W tg iter pi) (ok : BlkOk X.N X.env.scope scope own)
    (hv : ∀ i ∈ vs1, i ∈ own.map (·.2)) (his : ∀ i ∈ is, i ∈ own.map (·.2)) (his1 : ∀ i ∈ is1, i ∈ vs1)
    (hg : ∀ (s : Shared) (H : Hp) (C : Addr) (cl : List (Str × Addr)) (fp : List Addr), SG (X.blk s H scope (compEnvC scope cl C X.env) fp) tg is t) (ht : ∀ (s : Shared) (H : Hp) (C : Addr) (cl : List (Str × Addr)) (fp : List Addr), STs (X.blk s H scope (compEnvC scope cl C X.env) fp) ifs c)
    (hi1 : ∀ (s : Shared) (H : Hp) (C : Addr) (cl : List (Str × Addr)) (fp : List Addr), SI (X.blk s H scope (compEnvC scope cl C X.env) fp) WF tg1 iter1 pi1)
    (hg1 : ∀ (s : Shared) (H : Hp) (C : Addr) (cl : List (Str × Addr)) (fp : List Addr), SG (X.blk s H scope (compEnvC scope cl C X.env) fp) tg1 is1 t1) (ht1 : ∀ (s : Shared) (H : Hp) (C : Addr) (cl : List (Str × Addr)) (fp : List Addr), STs (X.blk s H scope (compEnvC scope cl C X.env) fp) ifs1 c1)
    (he : ∀ (s : Shared) (H : Hp) (C : Addr) (cl : List (Str × Addr)) (fp : List Addr), SE (X.blk s H scope (compEnvC scope cl C X.env) fp) WF elt x) (hs : ∀ x, foldedSetIterable iter X.env x = pure x := by intro _; rfl) (hs1 : ∀ env x, foldedSetIterable iter1 env x = pure x := by intro _ _; rfl) :
    SS X W (.Assign [.Name y py] (.ListComp elt [⟨tg, iter, ifs, 0⟩, ⟨tg1, iter1, ifs1, 0⟩] scope pos) spos) (sSet i (eNew (nLc2 pi t c pi1 t1 c1 x (own.map (·.2)) vs1))) :=
  PS.imp (ps_setLc2 hc hN hy hyl hsw hi ok hv hg ht hi1 hg1 ht1 he hs hs1) (rs_set fun _ _ _ h => lc2_imp his his1 hv (rn_val h))

/-! ### defs -/
inductive RF where
  | ok (d : D) (outs : List Ob)
  | new (ds : List D) (outs : List Ob)
  | ex (x : Xn) (outs : List Ob)
  | bad
def ownK (k : Nat) : En → Option Ob
  | [] => none
  | .own (some j) o :: r => if j = k then some o else ownK k r
  | _ :: r => ownK k r
def outsOf (n : Nat) (e : En) : Option (List Ob) := (List.range n).mapM fun k => ownK k e
/-- a body as a function of its arguments -/
def runF (n nio : Nat) (b : XS) (args : List Sl) : RF := match b (args ++ List.replicate (n - args.length) .un) with
  | .ok (.rt d) e => match outsOf nio e with
    | some os => .ok d os
    | none => .bad
  | .ok .nx e => match outsOf nio e with
    | some os => .ok .none os
    | none => .bad
  | .ok (.rn ds) e => match outsOf nio e with
    | some os => .new ds os
    | none => .bad
  | .ex x e => match outsOf nio e with
    | some os => .ex x os
    | none => .bad
  | _ => .bad
def ArgOk (K : Frag) (io : List Addr) (Z H : Hp) : V → Sl → Prop
  | v, .dat d => Dq K Z v d
  | v, .raw w => XvOk K Z w v
  | v, .scr ds => ∃ a vs, v = .ref a ∧ SqL K Z a vs ∧ DqAll K Z vs ds
  | v, .own t o => ∃ k p u, t = some k ∧ io[k]? = some p ∧ v = .ref p ∧ H p = some u ∧ Z p = none ∧ ObOk K Z o u
  | _, .un => False
/-- what holds behind a def: Z' the frozen part -/
structure After (K : Frag) (io : List Addr) (Z H : Hp) (outs : List Ob) (Z' H' : Hp) : Prop where
  z : Same Z Z'
  s : Same Z' H'
  h : ∀ a o, H a = some o → a ∉ io → H' a = some o
  f : ∀ a o, H a = some o → Z' a = Z a
  o : ∀ (k : Nat) (p : Addr), io[k]? = some p → ∃ o u, outs[k]? = some o ∧ H' p = some u ∧ ObOk K Z' o u
def spF (K : Frag) (mg : Str → Option Value) (n nio : Nat) (F : List Sl → RF) : Sp := fun vs H Q E => vs.length = n ∧ ∃ (Z : Hp) (args : List Sl) (io : List Addr), io.length = nio ∧ Same Z H ∧ Paired (ArgOk K io Z H) vs args ∧
  (∀ (i j : Nat) (t u : Option Nat) (a b : Ob), i ≠ j → args[i]? = some (.own t a) → args[j]? = some (.own u b) → vs[i]? ≠ vs[j]?) ∧ (∀ p ∈ io, (∃ u, H p = some u) ∧ Z p = none) ∧
  match F args with
  | .ok d outs => ∀ v Z' H', After K io Z H outs Z' H' → Dq K Z' v d → Q v H'
  | .new ds outs => ∀ p vs Z' H', After K io Z H outs Z' H' → H p = none → H' p = some (.lst vs) → Z' p = none → DqAll K Z' vs ds → Q (.ref p) H'
  | .ex x outs => ∀ c dd Z' H', After K io Z H outs Z' H' → XnOk K mg Z' H' x c dd → E c dd H'
  | .bad => False
theorem ownK_get {k : Nat} {o : Ob} : ∀ {e : En}, ownK k e = some o → ∃ i : Nat, e[i]? = some (.own (some k) o)
  | [], h => nomatch h
  | .own (some j) o' :: r, h => by
    unfold ownK at h
    split at h
    · rename_i hj
      subst hj
      cases h
      exact ⟨0, rfl⟩
    · obtain ⟨i, q⟩ := ownK_get h
      exact ⟨i + 1, by simpa using q⟩
  | .own none _ :: r, h => by
    obtain ⟨i, q⟩ := ownK_get (e := r) h
    exact ⟨i + 1, by simpa using q⟩
  | .un :: r, h => by
    obtain ⟨i, q⟩ := ownK_get (e := r) h
    exact ⟨i + 1, by simpa using q⟩
  | .dat _ :: r, h => by
    obtain ⟨i, q⟩ := ownK_get (e := r) h
    exact ⟨i + 1, by simpa using q⟩
  | .raw _ :: r, h => by
    obtain ⟨i, q⟩ := ownK_get (e := r) h
    exact ⟨i + 1, by simpa using q⟩
  | .scr _ :: r, h => by
    obtain ⟨i, q⟩ := ownK_get (e := r) h
    exact ⟨i + 1, by simpa using q⟩
theorem mapM_get {α β : Type} {f : α → Option β} : ∀ {xs : List α} {ys : List β} {i : Nat} {x : α}, xs.mapM f = some ys → xs[i]? = some x → ∃ y, ys[i]? = some y ∧ f x = some y
  | [], _, _, _, _, h => by simp at h
  | x :: xs, ys, i, a, h, hi => by
    rw [List.mapM_cons] at h
    cases hx : f x with
    | none => rw [hx] at h; cases h
    | some y =>
      rw [hx] at h
      cases hr : xs.mapM f with
      | none => simp [hr] at h
      | some r =>
        simp only [hr, Option.bind_eq_bind, Option.bind_some, Option.pure_def, Option.some.injEq] at h
        subst h
        cases i with
        | zero =>
          simp at hi
          subst hi
          exact ⟨y, rfl, hx⟩
        | succ i =>
          obtain ⟨z, h1, h2⟩ := mapM_get hr (by simpa using hi)
          exact ⟨z, by simpa using h1, h2⟩
theorem outs_own {K : Frag} {io : List Addr} {Z H : Hp} {e : En} {σ : L2.St} {Z' H' : Hp} {outs : List Ob} (R : Rl K ⟨io, (· ∈ io), H, Z⟩ e σ Z' H') (h : outsOf io.length e = some outs) {p : Addr} (hp : p ∈ io) : Owns e σ p := by
  obtain ⟨k, hk, rfl⟩ := List.getElem_of_mem hp
  obtain ⟨o, h1, h2⟩ := mapM_get h (show (List.range io.length)[k]? = some k by rw [List.getElem?_range hk])
  obtain ⟨i, hi⟩ := ownK_get h2
  obtain ⟨q, u, e1, e2, e3, e4, _, e6⟩ := R.own hi
  have : io[k]? = some q := e6 k rfl
  rw [List.getElem?_eq_getElem hk] at this
  cases this
  exact ⟨i, _, _, hi, e1⟩
theorem after_of {K : Frag} {io : List Addr} {Z H : Hp} {e : En} {σ : L2.St} {Z' H' : Hp} {outs : List Ob} (hio : ∀ p ∈ io, (∃ u, H p = some u) ∧ Z p = none) (R : Rl K ⟨io, (· ∈ io), H, Z⟩ e σ Z' H') (h : outsOf io.length e = some outs) : After K io Z H outs Z' H' := by
  have get : ∀ (k : Nat) (p : Addr), io[k]? = some p → ∃ o u, outs[k]? = some o ∧ H' p = some u ∧ ObOk K Z' o u ∧ Z' p = none := fun k p hp => by
    have hk : k < io.length := (List.getElem?_eq_some_iff.mp hp).1
    obtain ⟨o, h1, h2⟩ := mapM_get h (show (List.range io.length)[k]? = some k by rw [List.getElem?_range hk])
    obtain ⟨i, hi⟩ := ownK_get h2
    obtain ⟨q, u, e1, e2, e3, e4, _, e6⟩ := R.own hi
    have : io[k]? = some q := e6 k rfl
    rw [hp] at this
    cases this
    exact ⟨o, u, h1, e2, e4, e3⟩
  refine ⟨R.zup, R.sub, fun a o ha hn => R.keep a o ha hn, fun a o ha => ?_, fun k p hp => ?_⟩
  · by_cases hn : a ∈ io
    · obtain ⟨k, hk, rfl⟩ := List.getElem_of_mem hn
      obtain ⟨_, _, _, _, _, z⟩ := get k _ (List.getElem?_eq_getElem hk)
      rw [z, (hio _ hn).2]
    · exact R.zfr a o ha hn
  · obtain ⟨o, u, h1, h2, h3, _⟩ := get k p hp
    exact ⟨o, u, h1, h2, h3⟩
theorem paired_get {α β : Type} {F : α → β → Prop} : ∀ {xs : List α} {ys : List β} {i : Nat} {y : β}, Paired F xs ys → ys[i]? = some y → ∃ x, xs[i]? = some x ∧ F x y
  | _, _, 0, _, .cons h _, e => ⟨_, rfl, by cases e; exact h⟩
  | _, _, i + 1, y, .cons _ t, e => by
    obtain ⟨x, h1, h2⟩ := paired_get (i := i) t (by simpa using e)
    exact ⟨x, by simpa using h1, h2⟩
theorem paired_get' {α β : Type} {F : α → β → Prop} : ∀ {xs : List α} {ys : List β} {i : Nat} {y : α}, Paired F xs ys → xs[i]? = some y → ∃ x, ys[i]? = some x ∧ F y x
  | _, _, 0, _, .cons h _, e => ⟨_, rfl, by cases e; exact h⟩
  | _, _, i + 1, y, .cons _ t, e => by
    obtain ⟨x, h1, h2⟩ := paired_get' (i := i) t (by simpa using e)
    exact ⟨x, by simpa using h1, h2⟩
/-- at a def's entry -/
theorem rl_start {K : Frag} {io : List Addr} {Z H : Hp} {vs : List V} {args : List Sl} {N : List Str} (hs : Same Z H) (h : Paired (ArgOk K io Z H) vs args)
    (hsep : ∀ (i j : Nat) (t u : Option Nat) (a b : Ob), i ≠ j → args[i]? = some (.own t a) → args[j]? = some (.own u b) → vs[i]? ≠ vs[j]?) :
    Rl K ⟨io, (· ∈ io), H, Z⟩ (args ++ List.replicate (N.length - args.length) .un) (L2.start N vs) Z H := by
  have hl := h.length
  have at1 : ∀ (i : Nat) (s : Sl), (args ++ List.replicate (N.length - args.length) .un)[i]? = some s → (args[i]? = some s ∧ i < args.length) ∨ (args.length ≤ i ∧ s = .un) := fun i s hi => by
    by_cases hlt : i < args.length
    · rw [List.getElem?_append_left hlt] at hi
      exact .inl ⟨hi, hlt⟩
    · rw [List.getElem?_append_right (by omega)] at hi
      exact .inr ⟨by omega, (List.mem_replicate.mp (List.mem_of_getElem? hi)).2⟩
  have at2 : ∀ i : Nat, i < args.length → (L2.start N vs)[i]? = vs[i]?.map some := fun i hi => by
    unfold L2.start
    rw [List.getElem?_append_left (by rw [List.length_map]; omega), List.getElem?_map]
  refine ⟨by unfold L2.start; simp [hl], fun i s x h1 h2 => ?_, fun i j t u a b hij h1 h2 => ?_, hs, Same.refl _, fun a o ha _ => ha, fun _ _ _ _ => rfl⟩
  · rcases at1 i s h1 with ⟨q, hlt⟩ | ⟨_, rfl⟩
    · obtain ⟨v, e1, e2⟩ := paired_get h q
      rw [at2 i hlt, e1] at h2
      cases h2
      cases s with
      | un => exact e2.elim
      | dat d => exact ⟨v, rfl, e2⟩
      | raw w => exact ⟨v, rfl, e2⟩
      | scr ds => obtain ⟨a, ws, z1, z2⟩ := e2; exact ⟨a, ws, congrArg some z1, z2⟩
      | own t o =>
        obtain ⟨k, p, u, rfl, z2, rfl, z4, z5, z6⟩ := e2
        exact ⟨p, u, rfl, z4, z5, z6, .inr (List.mem_of_getElem? z2), fun k' hk' => by cases hk'; exact z2⟩
    · trivial
  · rcases at1 i _ h1 with ⟨q1, l1⟩ | ⟨_, z⟩
    · rcases at1 j _ h2 with ⟨q2, l2⟩ | ⟨_, z⟩
      · rw [at2 i l1, at2 j l2]
        intro z
        have := hsep i j t u a b hij q1 q2
        apply this
        cases h3 : vs[i]? <;> cases h4 : vs[j]? <;> rw [h3, h4] at z <;> simp at z <;> first | rfl | (rw [z])
      · cases z
    · cases z
/-- .. where none leaves -/
def RF.nox : RF → RF
  | .ex _ _ => .bad
  | r => r
/-- THE RULE for a def, no exception leaving -/
theorem fn_ok {P : Program} {w : World} {K : Frag} {mg : Str → Option Value} {base : Heap} {x qual : Str} {st : Stmt} {f : Addr} {fd : FuncData} {N ps : List Str} {k nio : Nat} {b : XS} (F : Fun K x qual st f fd) (S : FnScope N ps (defScope st))
    (hb : ∀ (cdv : Value) (A : Around) (outer : List Env) (s : Shared) (H : Hp) (E : XK), Room k (A.deeper (envOfC qual (defScope st) s.heap.objs.size f cdv)) → SB (cxOf CX0 P w K mg base N qual (defScope st) f cdv A outer s H E).nox WF (defBody st) b) :
    FnOk P w K mg base CX0 (k + 1) f fd ps (spF K mg ps.length nio fun a => (runF N.length nio b a).nox) := by
  refine F.ok S (fun vs H Q E h => h.1) (fun cdv A outer s H vs Q E hr h => ?_)
  obtain ⟨hl, Z, args, io, hio, hs, hp, hsep, hz, h⟩ := h
  refine ⟨_, hb cdv A outer s H E hr, _, _, Z, rl_start hs hp hsep, ?_⟩
  show PgS K mg WF _ Z (b (args ++ List.replicate (N.length - args.length) .un)) _
  unfold runF at h
  subst hio
  dsimp only at h
  cases hb : b (args ++ List.replicate (N.length - args.length) .un) with
  | bad => rw [hb] at h; exact h
  | ex x e =>
    rw [hb] at h
    simp only at h
    cases ho : outsOf io.length e with
    | none => rw [ho] at h; exact h.elim
    | some os => rw [ho] at h; exact h.elim
  | ok fl e =>
    rw [hb] at h
    cases fl with
    | bk => exact h.elim
    | ct => exact h.elim
    | nx =>
      simp only at h
      cases ho : outsOf io.length e with
      | none => rw [ho] at h; exact h.elim
      | some os =>
        rw [ho] at h
        exact fun σ' Z' H' s1 R1 => h _ Z' H' (after_of hz R1 ho) .non
    | rn ds =>
      simp only at h
      cases ho : outsOf io.length e with
      | none => rw [ho] at h; exact h.elim
      | some os =>
        rw [ho] at h
        exact fun p vs σ' Z' H' s1 R1 g1 g2 g3 g4 g5 => h p vs Z' H' (after_of hz R1 ho) (g3.resolve_right fun z => g4 (outs_own R1 ho z)) g1 g2 g5
    | rt d =>
      simp only at h
      cases ho : outsOf io.length e with
      | none => rw [ho] at h; exact h.elim
      | some os =>
        rw [ho] at h
        exact fun v σ' Z' H' s1 R1 dd => h v Z' H' (after_of hz R1 ho) dd

/-! ### calls -/
inductive Ar where
  | d (d : D)
  | io (i : Nat)
  | raw (x : Xn)
  | scr (ds : List D)
def ArOk (K : Frag) (σ : L2.St) (Z : Hp) : V → Ar → Prop
  | v, .d d => Dq K Z v d
  | v, .io i => σ[i]? = some (some v)
  | v, .raw w => XvOk K Z w v
  | v, .scr ds => ∃ a vs, v = .ref a ∧ SqL K Z a vs ∧ DqAll K Z vs ds
abbrev vAr (K : Frag) (σ : L2.St) : Hp → List V → List Ar → Prop := fun Z vs as => Paired (ArOk K σ Z) vs as
abbrev XR := En → R (List Ar)
abbrev RR (K : Frag) (mg : Str → Option Value) (W : WX) (p : XR) : TA := fun σ => Rg K mg W (vAr K σ) p σ
abbrev SR (X : Cx) (W : WX) (es : List Expr) (p : XR) : Prop := PA X es (RR X.K X.mg W p)
def rNil : XR := fun e => .ok [] e
def rCons (p : XE) (q : XR) : XR := fun e => (p e).bind fun d e1 => (q e1).bind fun ds e2 => .ok (.d d :: ds) e2
def rScr (i : Nat) (q : XR) : XR := fun e => match e[i]? with
  | some (.scr xs) => (q e).bind fun ds e2 => .ok (.scr xs :: ds) e2
  | _ => .bad
def rIo (i : Nat) (q : XR) : XR := fun e => match e[i]? with
  | some (.own _ _) => (q e).bind fun ds e2 => .ok (.io i :: ds) e2
  | _ => .bad
def rExn (i : Nat) (q : XR) : XR := fun e => match e[i]? with
  | some (.raw x) => (q e).bind fun ds e2 => .ok (.raw x :: ds) e2
  | _ => .bad
theorem sr_nil : SR X W [] rNil := PA.imp pa_nil fun σ H Q ⟨B, e, Z, R0, hq⟩ => hq [] Z H (Same.refl _) R0 .nil
theorem ArOk.up {K : Frag} {σ : L2.St} {Z Z' : Hp} (s : Same Z Z') : ∀ {v : V} {a : Ar}, ArOk K σ Z v a → ArOk K σ Z' v a
  | _, .d _, h => dp_mono s h
  | _, .io _, h => h
  | _, .raw _, h => XvOk.mono s h
  | _, .scr _, ⟨a, vs, h1, h2, h3⟩ => ⟨a, vs, h1, Same.seq s h2, dpa_mono s h3⟩
theorem sr_cons {x : Expr} {xs : List Expr} {p : XE} {q : XR} (ha : SE X W x p) (hr : SR X W xs q) (hs : starEach (x :: xs) X.env = (false, eval x X.env) :: starEach xs X.env := by rfl) : SR X W (x :: xs) (rCons p q) := by
  refine PA.imp (pa_cons ha hr hs) fun σ H Q ⟨B, e, Z, R0, hq⟩ => ?_
  refine rg_bind R0 hq fun v1 Z1 e1 d1 H1 s1 R1 D1 h1 => ?_
  refine rg_bind R1 h1 fun v2 Z2 e2 d2 H2 s2 R2 D2 h2 => ?_
  exact h2 _ Z2 H2 (Same.refl _) R2 (.cons (dp_mono s2 D1) D2)
theorem sr_io {i : Nat} {x : Str} {p : Pos} {xs : List Expr} {q : XR} (ha : PE X (.Name x p) (tVar i)) (hr : SR X W xs q) (hs : starEach (.Name x p :: xs) X.env = (false, eval (.Name x p) X.env) :: starEach xs X.env := by rfl) : SR X W (.Name x p :: xs) (rIo i q) := by
  refine PA.imp (pa_cons ha hr hs) fun σ H Q ⟨B, e, Z, R0, hq⟩ => ?_
  unfold rIo at hq
  split at hq
  · rename_i t o he
    obtain ⟨a, u, h1, _⟩ := R0.own he
    refine ⟨_, h1, ?_⟩
    refine rg_bind R0 hq fun v2 Z2 e2 d2 H2 s2 R2 D2 h2 => ?_
    exact h2 _ Z2 H2 (Same.refl _) R2 (.cons h1 D2)
  · exact hq.elim
theorem sr_scr {i : Nat} {x : Str} {p : Pos} {xs : List Expr} {q : XR} (ha : PE X (.Name x p) (tVar i)) (hr : SR X W xs q) (hs : starEach (.Name x p :: xs) X.env = (false, eval (.Name x p) X.env) :: starEach xs X.env := by rfl) : SR X W (.Name x p :: xs) (rScr i q) := by
  refine PA.imp (pa_cons ha hr hs) fun σ H Q ⟨B, e, Z, R0, hq⟩ => ?_
  unfold rScr at hq
  split at hq
  · rename_i ds he
    obtain ⟨a, vs, h1, h2, h3⟩ := R0.scr he
    refine ⟨_, h1, ?_⟩
    refine rg_bind R0 hq fun v2 Z2 e2 d2 H2 s2 R2 D2 h4 => ?_
    exact h4 _ Z2 H2 (Same.refl _) R2 (.cons ⟨a, vs, rfl, Same.seq s2 h2, dpa_mono s2 h3⟩ D2)
  · exact hq.elim
theorem sr_exn {i : Nat} {x : Str} {p : Pos} {xs : List Expr} {q : XR} (ha : PE X (.Name x p) (tVar i)) (hr : SR X W xs q) (hs : starEach (.Name x p :: xs) X.env = (false, eval (.Name x p) X.env) :: starEach xs X.env := by rfl) : SR X W (.Name x p :: xs) (rExn i q) := by
  refine PA.imp (pa_cons ha hr hs) fun σ H Q ⟨B, e, Z, R0, hq⟩ => ?_
  unfold rExn at hq
  split at hq
  · rename_i y he
    obtain ⟨u, h1, h2⟩ := R0.raw he
    refine ⟨_, h1, ?_⟩
    refine rg_bind R0 hq fun v2 Z2 e2 d2 H2 s2 R2 D2 h4 => ?_
    exact h4 _ Z2 H2 (Same.refl _) R2 (.cons (XvOk.mono s2 h2) D2)
  · exact hq.elim
/-- the arguments as a def takes them: what is written through comes as it is now -/
def resolve (e : En) : List Ar → Nat → Option (List Sl)
  | [], _ => some []
  | .d d :: r, k => (resolve e r k).map (.dat d :: ·)
  | .raw v :: r, k => (resolve e r k).map (.raw v :: ·)
  | .scr v :: r, k => (resolve e r k).map (.scr v :: ·)
  | .io i :: r, k => match e[i]? with
    | some (.own _ o) => (resolve e r (k + 1)).map (.own (some k) o :: ·)
    | _ => none
def ios : List Ar → List Nat
  | [] => []
  | .io i :: r => i :: ios r
  | _ :: r => ios r
def putO (e : En) (i : Nat) (o : Ob) : Option En := match e[i]? with
  | some (.own t _) => some (e.set i (.own t o))
  | _ => none
/-- what stands behind a call: no thing or one is written through -/
def behind (e : En) (as : List Ar) (r : RF) : R D := match ios as, r with
  | [], .ok d _ => .ok d e
  | [], .new ds _ => .ok (.list ds) e
  | [], .ex x _ => .ex x e
  | [i], .ok d [o] => match putO e i o with
    | some e' => .ok d e'
    | none => .bad
  | [i], .new ds [o] => match putO e i o with
    | some e' => .ok (.list ds) e'
    | none => .bad
  | [i], .ex x [o] => match putO e i o with
    | some e' => .ex x e'
    | none => .bad
  | _, _ => .bad
def behindN (e : En) (as : List Ar) (r : RF) : R (List D) := match ios as, r with
  | [], .new ds _ => .ok ds e
  | [], .ex x _ => .ex x e
  | [i], .new ds [o] => match putO e i o with
    | some e' => .ok ds e'
    | none => .bad
  | [i], .ex x [o] => match putO e i o with
    | some e' => .ex x e'
    | none => .bad
  | _, _ => .bad
def nFn (n nio : Nat) (F : List Sl → RF) (q : XR) : XI := fun e => (q e).bind fun as e1 => if as.length = n ∧ (ios as).length = nio then match resolve e1 as 0 with
  | some args => behindN e1 as (F args)
  | none => .bad
  else .bad
def eFn (n nio : Nat) (F : List Sl → RF) (q : XR) : XE := fun e => (q e).bind fun as e1 => if as.length = n ∧ (ios as).length = nio then match resolve e1 as 0 with
  | some args => behind e1 as (F args)
  | none => .bad
  else .bad
theorem rl_after0 {K : Frag} {B : Bs} {e : En} {σ : L2.St} {Z H Z' H' : Hp} {outs : List Ob} (R : Rl K B e σ Z H) (a : After K [] Z H outs Z' H') : Rl K B e σ Z' H' :=
  R.nw ⟨a.z, fun x o h => a.h x o h (by simp), a.s, a.f⟩
theorem rl_after1 {K : Frag} {B : Bs} {e : En} {σ : L2.St} {Z H Z' H' : Hp} {i : Nat} {t : Option Nat} {o o' : Ob} {p : Addr} (R : Rl K B e σ Z H) (h : e[i]? = some (.own t o)) (h1 : σ[i]? = some (some (.ref p))) (a : After K [p] Z H [o'] Z' H') : Rl K B (e.set i (.own t o')) σ Z' H' := by
  obtain ⟨q, w, h1', h2, h3, h4, h5, h6⟩ := R.own h
  rw [h1] at h1'
  cases h1'
  obtain ⟨o2, u, g1, g2, g3⟩ := a.o 0 p rfl
  cases g1
  refine ⟨by simp [R.len], fun j s x q1 q2 => ?_, fun j k t1 u1 a' b hjk q1 q2 => ?_, a.s, R.zup.trans a.z, fun x y hx hw => ?_, fun x y hx hw => ?_⟩
  · rcases get_set q1 with ⟨rfl, rfl⟩ | ⟨hj, q⟩
    · rw [h1] at q2
      cases q2
      exact ⟨p, u, rfl, g2, (a.f p w h2).trans h3, g3, h5, h6⟩
    · have z := R.ok j s x q q2
      cases s with
      | un => trivial
      | dat d => obtain ⟨v, e1, e2⟩ := z; exact ⟨v, e1, dp_mono a.z e2⟩
      | raw v => obtain ⟨u, e1, e2⟩ := z; exact ⟨u, e1, e2.mono a.z⟩
      | scr ds => obtain ⟨b, ws, z1, z2, z3⟩ := z; exact ⟨b, ws, z1, Same.seq a.z z2, dpa_mono a.z z3⟩
      | own t' o'' =>
        obtain ⟨p', u', z1, z2, z3, z4, z5, z6⟩ := z
        subst z1
        have ne : p' ≠ p := fun z => hj (R.owns_one q (z ▸ q2) h h1)
        exact ⟨p', u', rfl, a.h p' u' z2 (by simpa using ne), (a.f p' u' z2).trans z3, z4.mono a.z, z5, z6⟩
  · have g : ∀ (m : Nat) (t' : Option Nat) (a : Ob), (e.set i (.own t o'))[m]? = some (.own t' a) → ∃ t2 o2, e[m]? = some (.own t2 o2) := fun m t' a hm => by
      rcases get_set hm with ⟨rfl, _⟩ | ⟨_, q⟩
      · exact ⟨_, _, h⟩
      · exact ⟨_, _, q⟩
    obtain ⟨_, _, g1⟩ := g j _ a' q1
    obtain ⟨_, _, g2⟩ := g k _ b q2
    exact R.sep j k _ _ _ _ hjk g1 g2
  · have hq := R.keep x y hx hw
    refine a.h x y hq fun z => ?_
    have z' : x = p := by simpa using z
    subst z'
    rcases h5 with h5 | h5
    · rw [h5] at hx; cases hx
    · exact hw h5
  · exact (a.f x y (R.keep x y hx hw)).trans (R.zfr x y hx hw)
theorem resolve_ok {K : Frag} {B : Bs} {e : En} {σ : L2.St} {Z H : Hp} {io : List Addr} (R : Rl K B e σ Z H) : ∀ {as : List Ar} {k : Nat} {vs : List V} {args : List Sl}, Paired (ArOk K σ Z) vs as → resolve e as k = some args →
    (∀ j i : Nat, (ios as)[j]? = some i → ∃ p, io[k + j]? = some p ∧ σ[i]? = some (some (.ref p))) → Paired (ArgOk K io Z H) vs args
  | [], k, _, args, .nil, h, _ => by cases h; exact .nil
  | .d d :: r, k, _, args, .cons a b, h, g => by
    cases hr : resolve e r k with
    | none => simp [resolve, hr] at h
    | some ar =>
      simp only [resolve, hr, Option.map_some, Option.some.injEq] at h
      subst h
      exact .cons a (resolve_ok R b hr g)
  | .raw v :: r, k, _, args, .cons a b, h, g => by
    cases hr : resolve e r k with
    | none => simp [resolve, hr] at h
    | some ar =>
      simp only [resolve, hr, Option.map_some, Option.some.injEq] at h
      subst h
      exact .cons a (resolve_ok R b hr g)
  | .scr v :: r, k, _, args, .cons a b, h, g => by
    cases hr : resolve e r k with
    | none => simp [resolve, hr] at h
    | some ar =>
      simp only [resolve, hr, Option.map_some, Option.some.injEq] at h
      subst h
      exact .cons a (resolve_ok R b hr g)
  | .io i :: r, k, _, args, .cons a b, h, g => by
    unfold resolve at h
    split at h
    · rename_i t o he
      cases hr : resolve e r (k + 1) with
      | none => simp [hr] at h
      | some ar =>
        simp only [hr, Option.map_some, Option.some.injEq] at h
        subst h
        obtain ⟨p, u, h1, h2, h3, h4, h5, h6⟩ := R.own he
        obtain ⟨p', g1, g2⟩ := g 0 i rfl
        rw [h1] at g2
        cases g2
        have av : some (some (V.ref p)) = some (some _) := h1.symm.trans a
        cases av
        exact .cons ⟨k, p, u, rfl, g1, rfl, h2, h3, h4⟩ (resolve_ok R b hr fun j m hj => by
          have := g (j + 1) m hj
          rw [show k + 1 + j = k + (j + 1) by omega]
          exact this)
    · cases h
theorem resolve_own {e : En} : ∀ {as : List Ar} {k : Nat} {args : List Sl} {i : Nat} {t : Option Nat} {o : Ob}, resolve e as k = some args → args[i]? = some (.own t o) → ∃ m : Nat, as[i]? = some (.io m)
  | [], k, args, i, t, o, h, g => by cases h; simp at g
  | .d d :: r, k, args, i, t, o, h, g => by
    cases hr : resolve e r k with
    | none => simp [resolve, hr] at h
    | some ar =>
      simp only [resolve, hr, Option.map_some, Option.some.injEq] at h
      subst h
      cases i with
      | zero => cases g
      | succ i => exact resolve_own (i := i) hr (by simpa using g)
  | .raw v :: r, k, args, i, t, o, h, g => by
    cases hr : resolve e r k with
    | none => simp [resolve, hr] at h
    | some ar =>
      simp only [resolve, hr, Option.map_some, Option.some.injEq] at h
      subst h
      cases i with
      | zero => cases g
      | succ i => exact resolve_own (i := i) hr (by simpa using g)
  | .scr v :: r, k, args, i, t, o, h, g => by
    cases hr : resolve e r k with
    | none => simp [resolve, hr] at h
    | some ar =>
      simp only [resolve, hr, Option.map_some, Option.some.injEq] at h
      subst h
      cases i with
      | zero => cases g
      | succ i => exact resolve_own (i := i) hr (by simpa using g)
  | .io m :: r, k, args, i, t, o, h, g => by
    unfold resolve at h
    split at h
    · cases hr : resolve e r (k + 1) with
      | none => simp [hr] at h
      | some ar =>
        simp only [hr, Option.map_some, Option.some.injEq] at h
        subst h
        cases i with
        | zero => exact ⟨m, rfl⟩
        | succ i => exact resolve_own (i := i) hr (by simpa using g)
    · cases h
theorem ios_none : ∀ {as : List Ar} {i m : Nat}, ios as = [] → as[i]? = some (.io m) → False
  | [], i, m, _, g => by simp at g
  | .d d :: r, 0, m, h, g => by cases g
  | .d d :: r, i + 1, m, h, g => ios_none (as := r) (i := i) h (by simpa using g)
  | .raw d :: r, 0, m, h, g => by cases g
  | .raw d :: r, i + 1, m, h, g => ios_none (as := r) (i := i) h (by simpa using g)
  | .scr d :: r, 0, m, h, g => by cases g
  | .scr d :: r, i + 1, m, h, g => ios_none (as := r) (i := i) h (by simpa using g)
  | .io _ :: r, i, m, h, g => by cases h
theorem ios_one : ∀ {as : List Ar} {i j m n q : Nat}, ios as = [q] → as[i]? = some (.io m) → as[j]? = some (.io n) → i = j
  | [], i, j, m, n, q, h, g, g' => by simp at g
  | .d d :: r, 0, _, m, n, q, h, g, g' => by cases g
  | .d d :: r, _, 0, m, n, q, h, g, g' => by cases g'
  | .d d :: r, i + 1, j + 1, m, n, q, h, g, g' => congrArg (· + 1) (ios_one (as := r) (i := i) (j := j) h (by simpa using g) (by simpa using g'))
  | .raw d :: r, 0, _, m, n, q, h, g, g' => by cases g
  | .raw d :: r, _, 0, m, n, q, h, g, g' => by cases g'
  | .raw d :: r, i + 1, j + 1, m, n, q, h, g, g' => congrArg (· + 1) (ios_one (as := r) (i := i) (j := j) h (by simpa using g) (by simpa using g'))
  | .scr d :: r, 0, _, m, n, q, h, g, g' => by cases g
  | .scr d :: r, _, 0, m, n, q, h, g, g' => by cases g'
  | .scr d :: r, i + 1, j + 1, m, n, q, h, g, g' => congrArg (· + 1) (ios_one (as := r) (i := i) (j := j) h (by simpa using g) (by simpa using g'))
  | .io a :: r, 0, 0, m, n, q, h, g, g' => rfl
  | .io a :: r, i + 1, _, m, n, q, h, g, g' => by
    have h' : ios r = [] := (List.cons.inj h).2
    exact (ios_none h' (i := i) (by simpa using g)).elim
  | .io a :: r, 0, j + 1, m, n, q, h, g, g' => by
    have h' : ios r = [] := (List.cons.inj h).2
    exact (ios_none h' (i := j) (by simpa using g')).elim
/-- the heart of a call: what the answer gives, for any end -/
theorem fn_core {n nio : Nat} {F : List Sl → RF} {B : Bs} {e : En} {σ : L2.St} {Z H : Hp} {vs : List V} {as : List Ar} {args : List Sl} {Q : VK} {E : XK} (R0 : Rl X.K B e σ Z H) (hp : Paired (ArOk X.K σ Z) vs as)
    (hn : as.length = n ∧ (ios as).length = nio) (hr : resolve e as 0 = some args) (h0 : ∀ i, ios as = [i] → ∃ t o, e[i]? = some (.own t o)) (h2 : ios as = [] ∨ ∃ i, ios as = [i])
    (k : ∀ io : List Addr, (ios as = [] ∧ io = []) ∨ (∃ i p, ios as = [i] ∧ σ[i]? = some (some (.ref p)) ∧ io = [p]) → match F args with
      | .ok d outs => ∀ v Z' H', After X.K io Z H outs Z' H' → Dq X.K Z' v d → Q v H'
      | .new ds outs => ∀ p vs Z' H', After X.K io Z H outs Z' H' → H p = none → H' p = some (.lst vs) → Z' p = none → DqAll X.K Z' vs ds → Q (.ref p) H'
      | .ex x outs => ∀ c dd Z' H', After X.K io Z H outs Z' H' → XnOk X.K X.mg Z' H' x c dd → E c dd H'
      | .bad => False) : spF X.K X.mg n nio F vs H Q E := by
  refine ⟨by rw [hp.length]; exact hn.1, Z, args, ?_⟩
  rcases h2 with hi | ⟨i, hi⟩
  · refine ⟨[], by simp [← hn.2, hi], R0.sub, resolve_ok R0 hp hr (fun j i hj => by rw [hi] at hj; simp at hj), fun i j t u a b hij h1 h2 => ?_, fun p hp => by simp at hp, k [] (.inl ⟨hi, rfl⟩)⟩
    obtain ⟨m, hm⟩ := resolve_own hr h1
    exact (ios_none hi hm).elim
  · obtain ⟨t, o, he⟩ := h0 i hi
    obtain ⟨p, u, h1, h2, h3, h4, h5, h6⟩ := R0.own he
    refine ⟨[p], by simp [← hn.2, hi], R0.sub, resolve_ok R0 hp hr (fun j m hj => ?_), fun i' j t u a b hij g1 g2 => ?_, fun q hq => ?_, k [p] (.inr ⟨i, p, hi, h1, rfl⟩)⟩
    · rw [hi] at hj
      cases j with
      | zero => cases hj; exact ⟨p, rfl, h1⟩
      | succ j => simp at hj
    · obtain ⟨m, hm⟩ := resolve_own hr g1
      obtain ⟨m', hm'⟩ := resolve_own hr g2
      exact absurd (ios_one hi hm hm') hij
    · have : q = p := by simpa using hq
      subst this
      exact ⟨⟨u, h2⟩, h3⟩
theorem putO_own {e e' : En} {i : Nat} {o : Ob} (h : putO e i o = some e') : ∃ t o', e[i]? = some (.own t o') ∧ e' = e.set i (.own t o) := by
  unfold putO at h
  split at h
  · rename_i t o' he
    cases h
    exact ⟨t, o', he, rfl⟩
  · cases h
theorem resolve_io {e : En} : ∀ {as : List Ar} {k i : Nat} {args : List Sl}, resolve e as k = some args → i ∈ ios as → ∃ t o, e[i]? = some (.own t o)
  | [], k, i, args, h, g => by simp [ios] at g
  | .d d :: r, k, i, args, h, g => by
    cases hr : resolve e r k with
    | none => simp [resolve, hr] at h
    | some ar => exact resolve_io hr g
  | .raw d :: r, k, i, args, h, g => by
    cases hr : resolve e r k with
    | none => simp [resolve, hr] at h
    | some ar => exact resolve_io hr g
  | .scr d :: r, k, i, args, h, g => by
    cases hr : resolve e r k with
    | none => simp [resolve, hr] at h
    | some ar => exact resolve_io hr g
  | .io m :: r, k, i, args, h, g => by
    unfold resolve at h
    split at h
    · rename_i t o he
      cases hr : resolve e r (k + 1) with
      | none => simp [hr] at h
      | some ar =>
        rcases List.mem_cons.mp g with rfl | g
        · exact ⟨t, o, he⟩
        · exact resolve_io hr g
    · cases h
/-- the state behind a call, where one thing or none is written through -/
theorem behind_rl {B : Bs} {e : En} {σ : L2.St} {Z H Z' H' : Hp} {as : List Ar} {io : List Addr} {outs : List Ob} (R0 : Rl X.K B e σ Z H) (hio : (ios as = [] ∧ io = []) ∨ (∃ i p, ios as = [i] ∧ σ[i]? = some (some (.ref p)) ∧ io = [p])) (a : After X.K io Z H outs Z' H') :
    (ios as = [] → Rl X.K B e σ Z' H') ∧ ∀ i o e', ios as = [i] → outs = [o] → putO e i o = some e' → Rl X.K B e' σ Z' H' := by
  rcases hio with ⟨h1, rfl⟩ | ⟨i, p, h1, h2, rfl⟩
  · exact ⟨fun _ => rl_after0 R0 a, fun i o e' z => (by rw [h1] at z; cases z)⟩
  · refine ⟨fun z => (by rw [h1] at z; cases z), fun j o e' z w hput => ?_⟩
    rw [h1] at z
    cases z
    subst w
    obtain ⟨t, o', he, rfl⟩ := putO_own hput
    exact rl_after1 R0 he h2 a
theorem fn_run {n nio : Nat} {F : List Sl → RF} {B : Bs} {e : En} {σ : L2.St} {Z H : Hp} {vs : List V} {as : List Ar} {Q : VK} {E : XK} (R0 : Rl X.K B e σ Z H) (hp : Paired (ArOk X.K σ Z) vs as)
    (hE : (∀ c dd H', W c dd σ H' → E c dd H') ∨ ∀ a x o, F a ≠ .ex x o)
    (h : Pg X.K X.mg W B σ Z (vD X.K) (if as.length = n ∧ (ios as).length = nio then match resolve e as 0 with
      | some args => behind e as (F args)
      | none => .bad
      else .bad) Q) : spF X.K X.mg n nio F vs H Q E := by
  split at h
  case isFalse => exact h.elim
  rename_i hn
  cases hr : resolve e as 0 with
  | none => rw [hr] at h; exact h.elim
  | some args =>
    rw [hr] at h
    simp only at h
    have own1 : ∀ i, ios as = [i] → ∃ t o, e[i]? = some (.own t o) := fun i hi => resolve_io hr (by rw [hi]; simp)
    have two : ios as = [] ∨ ∃ i, ios as = [i] := by
      unfold behind at h
      match hi : ios as, h with
      | [], _ => exact .inl rfl
      | [i], _ => exact .inr ⟨i, rfl⟩
      | _ :: _ :: _, h => exact h.elim
    refine fn_core R0 hp hn hr own1 two fun io hio => ?_
    cases hF : F args with
    | bad =>
      rw [hF] at h
      unfold behind at h
      rcases two with hi | ⟨i, hi⟩ <;> simp only [hi] at h <;> exact h.elim
    | ok d outs =>
      rw [hF] at h
      intro v Z' H' a dd
      have b := behind_rl R0 hio a
      unfold behind at h
      rcases two with hi | ⟨i, hi⟩
      · simp only [hi] at h
        exact h v Z' H' a.z (b.1 hi) dd
      · simp only [hi] at h
        match outs, h with
        | [], h => exact h.elim
        | _ :: _ :: _, h => exact h.elim
        | [o], h =>
          cases hput : putO e i o with
          | none => simp only [hput] at h; exact h.elim
          | some e' =>
            simp only [hput] at h
            exact h v Z' H' a.z (b.2 i o e' hi rfl hput) dd
    | new ds outs =>
      rw [hF] at h
      intro p vs' Z' H' a hp0 h1 h2 h3
      have b := behind_rl R0 hio a
      have fr : ∀ {e' : En}, Rl X.K B e' σ Z' H' → (∀ q, Owns e' σ q → Owns e σ q) → Rl X.K B e' σ (upd Z' p (.lst vs')) H' ∧ Same Z' (upd Z' p (.lst vs')) := fun R' ow => R'.fix h2 (R0.fresh hp0) h1 fun z => R0.noOwn hp0 (ow _ z)
      unfold behind at h
      rcases two with hi | ⟨i, hi⟩
      · simp only [hi] at h
        obtain ⟨R2, s2⟩ := fr (b.1 hi) fun _ z => z
        exact h _ _ H' (a.z.trans s2) R2 (.lst upd_same (dpa_mono s2 h3))
      · simp only [hi] at h
        match outs, h with
        | [], h => exact h.elim
        | _ :: _ :: _, h => exact h.elim
        | [o], h =>
          cases hput : putO e i o with
          | none => simp only [hput] at h; exact h.elim
          | some e' =>
            simp only [hput] at h
            obtain ⟨t, o', he, rfl⟩ := putO_own hput
            obtain ⟨R2, s2⟩ := fr (b.2 i o _ hi rfl hput) fun q ⟨j, t', o'', q1, q2⟩ => by
              rcases get_set q1 with ⟨rfl, _⟩ | ⟨_, q3⟩
              · exact ⟨j, _, _, he, q2⟩
              · exact ⟨j, _, _, q3, q2⟩
            exact h _ _ H' (a.z.trans s2) R2 (.lst upd_same (dpa_mono s2 h3))
    | ex x outs =>
      rw [hF] at h
      intro c dd Z' H' a xx
      have b := behind_rl R0 hio a
      refine (hE.resolve_right fun z => z _ _ _ hF) _ _ _ ?_
      unfold behind at h
      rcases two with hi | ⟨i, hi⟩
      · simp only [hi] at h
        exact h c dd Z' H' a.z (b.1 hi) xx
      · simp only [hi] at h
        match outs, h with
        | [], h => exact h.elim
        | _ :: _ :: _, h => exact h.elim
        | [o], h =>
          cases hput : putO e i o with
          | none => simp only [hput] at h; exact h.elim
          | some e' =>
            simp only [hput] at h
            exact h c dd Z' H' a.z (b.2 i o e' hi rfl hput) xx
theorem fn_runN {n nio : Nat} {F : List Sl → RF} {B : Bs} {e : En} {σ : L2.St} {Z H : Hp} {vs : List V} {as : List Ar} {Q : VK} {E : XK} (R0 : Rl X.K B e σ Z H) (hp : Paired (ArOk X.K σ Z) vs as)
    (hE : (∀ c dd H', W c dd σ H' → E c dd H') ∨ ∀ a x o, F a ≠ .ex x o)
    (h : PgF X.K X.mg W B σ Z (if as.length = n ∧ (ios as).length = nio then match resolve e as 0 with
      | some args => behindN e as (F args)
      | none => .bad
      else .bad) Q) : spF X.K X.mg n nio F vs H Q E := by
  split at h
  case isFalse => exact h.elim
  rename_i hn
  cases hr : resolve e as 0 with
  | none => rw [hr] at h; exact h.elim
  | some args =>
    rw [hr] at h
    simp only at h
    have own1 : ∀ i, ios as = [i] → ∃ t o, e[i]? = some (.own t o) := fun i hi => resolve_io hr (by rw [hi]; simp)
    have two : ios as = [] ∨ ∃ i, ios as = [i] := by
      unfold behindN at h
      match hi : ios as, h with
      | [], _ => exact .inl rfl
      | [i], _ => exact .inr ⟨i, rfl⟩
      | _ :: _ :: _, h => exact h.elim
    refine fn_core R0 hp hn hr own1 two fun io hio => ?_
    cases hF : F args with
    | bad =>
      rw [hF] at h
      unfold behindN at h
      rcases two with hi | ⟨i, hi⟩ <;> simp only [hi] at h <;> exact h.elim
    | ok d outs =>
      rw [hF] at h
      unfold behindN at h
      rcases two with hi | ⟨i, hi⟩ <;> simp only [hi] at h <;> exact h.elim
    | new ds outs =>
      rw [hF] at h
      intro p vs' Z' H' a hp0 h1 h2 h3
      have b := behind_rl R0 hio a
      unfold behindN at h
      rcases two with hi | ⟨i, hi⟩
      · simp only [hi] at h
        exact h p vs' Z' H' a.z (b.1 hi) h1 h2 (R0.fresh hp0) (R0.noOwn hp0) h3
      · simp only [hi] at h
        match outs, h with
        | [], h => exact h.elim
        | _ :: _ :: _, h => exact h.elim
        | [o], h =>
          cases hput : putO e i o with
          | none => simp only [hput] at h; exact h.elim
          | some e' =>
            simp only [hput] at h
            obtain ⟨t, o', he, rfl⟩ := putO_own hput
            refine h p vs' Z' H' a.z (b.2 i o _ hi rfl hput) h1 h2 (R0.fresh hp0) (fun ⟨j, t', o'', q1, q2⟩ => ?_) h3
            rcases get_set q1 with ⟨rfl, _⟩ | ⟨_, q3⟩
            · exact R0.noOwn hp0 ⟨j, _, _, he, q2⟩
            · exact R0.noOwn hp0 ⟨j, _, _, q3, q2⟩
    | ex x outs =>
      rw [hF] at h
      intro c dd Z' H' a xx
      have b := behind_rl R0 hio a
      refine (hE.resolve_right fun z => z _ _ _ hF) _ _ _ ?_
      unfold behindN at h
      rcases two with hi | ⟨i, hi⟩
      · simp only [hi] at h
        exact h c dd Z' H' a.z (b.1 hi) xx
      · simp only [hi] at h
        match outs, h with
        | [], h => exact h.elim
        | _ :: _ :: _, h => exact h.elim
        | [o], h =>
          cases hput : putO e i o with
          | none => simp only [hput] at h; exact h.elim
          | some e' =>
            simp only [hput] at h
            exact h c dd Z' H' a.z (b.2 i o e' hi rfl hput) xx
theorem nox_ne {F : List Sl → RF} : ∀ a x o, (F a).nox ≠ .ex x o := fun a x o z => by cases hf : F a <;> simp [hf, RF.nox] at z
theorem sn_fn {k n nio : Nat} {f : Addr} {fd : FuncData} {ps : List Str} {x : Str} {p pos : Pos} {a : Expr} {es : List Expr} {F : List Sl → RF} {q : XR} (GF : FnOk X.prog X.w X.K X.mg X.base CX0 k f fd ps (spF X.K X.mg n nio fun a => (F a).nox)) (hr : Room k X.A) (hg : Gl X x) (hm : X.mg x = some (.ref f)) (hk : PySem.W.keepIn X.K (.ref f) = true) (hb : Binds X.K fd ps [])
    (ha : SR X W (a :: es) q) (hdb : (x == ("__debug__" : Str)) = false := by decide) (he : starEach (a :: es) X.env = (false, eval a X.env) :: starEach es X.env := by rfl) (hpl : (backTo pos (starEach es X.env)).any (·.1) = false := by rfl) :
    SN X W (.Call (.Name x p) (a :: es) [] pos) (nFn n nio (fun a => (F a).nox) q) := by
  refine PE.imp (pe_call GF hr hg hm hk hb .nil (pass0 (X := X)) ha hdb he hpl) fun σ H Q ⟨B, e, Z, R0, hq⟩ => ?_
  refine rn_bind R0 hq fun v1 Z1 e1 as H1 s1 R1 D1 h1 => ?_
  rw [List.append_nil]
  exact fn_runN R1 D1 (.inr nox_ne) h1
theorem se_fn {k n nio : Nat} {f : Addr} {fd : FuncData} {ps : List Str} {x : Str} {p pos : Pos} {a : Expr} {es : List Expr} {F : List Sl → RF} {q : XR} (GF : FnOk X.prog X.w X.K X.mg X.base CX0 k f fd ps (spF X.K X.mg n nio fun a => (F a).nox)) (hr : Room k X.A) (hg : Gl X x) (hm : X.mg x = some (.ref f)) (hk : PySem.W.keepIn X.K (.ref f) = true) (hb : Binds X.K fd ps [])
    (ha : SR X W (a :: es) q) (hdb : (x == ("__debug__" : Str)) = false := by decide) (he : starEach (a :: es) X.env = (false, eval a X.env) :: starEach es X.env := by rfl) (hpl : (backTo pos (starEach es X.env)).any (·.1) = false := by rfl) :
    SE X W (.Call (.Name x p) (a :: es) [] pos) (eFn n nio (fun a => (F a).nox) q) := by
  refine PE.imp (pe_call GF hr hg hm hk hb .nil (pass0 (X := X)) ha hdb he hpl) fun σ H Q ⟨B, e, Z, R0, hq⟩ => ?_
  refine rg_bind R0 hq fun v1 Z1 e1 as H1 s1 R1 D1 h1 => ?_
  rw [List.append_nil]
  exact fn_run R1 D1 (.inr nox_ne) h1
end
end G
set_option Elab.async false
set_option linter.all false
set_option maxRecDepth 100000
namespace G
open PySem PySem.Spec PyProof.Rows L2
section
variable {X : Cx} {W : WX} {pos : Pos}

theorem opr_or {f : Value → Value → Sem Value} {r r' : R2} (h : OpR X f r) (h' : OpR X f r') : OpR X f (fun x y H Q => r x y H Q ∨ r' x y H Q) := by
  intro pins s σ H x y v u Q I rx ry q
  rcases q with q | q
  · exact h pins s σ H x y v u Q I rx ry q
  · exact h' pins s σ H x y v u Q I rx ry q
theorem ok2_or {K : Frag} {r r' : R2} {g g' : D → D → Option D} (h : Ok2 K r g) (h' : Ok2 K r' g') : Ok2 K (fun x y H Q => r x y H Q ∨ r' x y H Q) (fun a b => (g a b).orElse fun _ => g' a b) := by
  intro Z H x y d1 d2 d Q s D1 D2 e k
  dsimp only at e
  cases hg : g d1 d2 with
  | some a =>
    rw [hg] at e
    cases e
    exact .inl (h Z H x y d1 d2 _ Q s D1 D2 hg k)
  | none =>
    rw [hg] at e
    exact .inr (h' Z H x y d1 d2 d Q s D1 D2 e k)
/-- ints under a condition -/
def dI (C : Int → Int → Prop) [∀ i j, Decidable (C i j)] (g : Int → Int → D) : D → D → Option D
  | .int i, .int j => if C i j then some (g i j) else none
  | _, _ => none
theorem dI_of {C : Int → Int → Prop} [∀ i j, Decidable (C i j)] {g : Int → Int → D} {a b d : D} (h : dI C g a b = some d) : ∃ i j, a = .int i ∧ b = .int j ∧ C i j ∧ d = g i j := by
  unfold dI at h
  split at h
  · split at h
    · cases h; exact ⟨_, _, rfl, rfl, by assumption, rfl⟩
    · cases h
  · cases h
theorem ok_I {K : Frag} {C : Int → Int → Prop} [∀ i j, Decidable (C i j)] {g : Int → Int → Int} : Ok2 K (rI C fun i j => .int (g i j)) (dI C fun i j => .int (g i j)) := by
  intro Z H x y d1 d2 d Q s D1 D2 e k
  obtain ⟨i, j, rfl, rfl, c, rfl⟩ := dI_of e
  cases dp_int D1
  cases dp_int D2
  exact ⟨i, j, rfl, rfl, c, k _ Z H (Nw.refl s) (.int _)⟩
theorem ok_I0 {K : Frag} {g : Int → Int → Int} : Ok2 K (rI0 fun i j => .int (g i j)) (dI (fun _ _ => True) fun i j => .int (g i j)) := by
  intro Z H x y d1 d2 d Q s D1 D2 e k
  obtain ⟨i, j, rfl, rfl, c, rfl⟩ := dI_of e
  cases dp_int D1
  cases dp_int D2
  exact ⟨i, j, rfl, rfl, k _ Z H (Nw.refl s) (.int _)⟩
theorem ok_B0 {K : Frag} {g : Int → Int → Bool} : Ok2 K (rI0 fun i j => .bl (g i j)) (dI (fun _ _ => True) fun i j => .bool (g i j)) := by
  intro Z H x y d1 d2 d Q s D1 D2 e k
  obtain ⟨i, j, rfl, rfl, c, rfl⟩ := dI_of e
  cases dp_int D1
  cases dp_int D2
  exact ⟨i, j, rfl, rfl, k _ Z H (Nw.refl s) (.bl _)⟩
instance : ∀ i j, Decidable (CMul i j) := fun i j => by unfold CMul; infer_instance
instance : ∀ i j, Decidable (CDiv i j) := fun i j => by unfold CDiv; infer_instance
instance : ∀ i j, Decidable (CPow i j) := fun i j => by unfold CPow; infer_instance

/-! ### + -/
def dAddS : D → D → Option D
  | .str a, .str b => if a.length + b.length ≤ sizeLine then some (.str (a ++ b)) else none
  | _, _ => none
theorem ok_addS {K : Frag} : Ok2 K (fun x y H Q => ∃ i j, x = .str i ∧ y = .str j ∧ i.length + j.length ≤ sizeLine ∧ Q (.str (i ++ j)) H) dAddS := by
  intro Z H x y d1 d2 d Q s D1 D2 e k
  unfold dAddS at e
  split at e
  · split at e
    · cases e
      cases dp_str D1
      cases dp_str D2
      exact ⟨_, _, rfl, rfl, by assumption, k _ Z H (Nw.refl s) (.str _)⟩
    · cases e
  · cases e
def dAddL : D → D → Option D
  | .list a, .list b => if a.length + b.length ≤ sizeLine then some (.list (a ++ b)) else none
  | _, _ => none
theorem ok_addL {K : Frag} : Ok2 K rCat dAddL := by
  intro Z H x y d1 d2 d Q s D1 D2 e k
  unfold dAddL at e
  split at e
  · split at e
    · cases e
      obtain ⟨a, ws, rfl, h1, h2⟩ := dp_list D1
      obtain ⟨b, us, rfl, h3, h4⟩ := dp_list D2
      refine ⟨a, b, ws, us, rfl, rfl, s _ _ h1, s _ _ h3, by rw [dpa_len h2, dpa_len h4]; assumption, fun p hp => ?_⟩
      have n := Nw.new (o := .lst (ws ++ us)) s hp
      exact k _ _ _ n (.lst upd_same (dpa_mono n.z (dpa_app h2 h4)))
    · cases e
  · cases e
def dAddT : D → D → Option D
  | .tuple a, .tuple b => if a ≠ [] ∧ a.length + b.length ≤ sizeLine then some (.tuple (a ++ b)) else none
  | _, _ => none
theorem ok_addT {K : Frag} : Ok2 K (rCatT K) dAddT := by
  intro Z H x y d1 d2 d Q s D1 D2 e k
  unfold dAddT at e
  split at e
  · split at e
    · rename_i hc
      cases e
      obtain ⟨a, ws, rfl, h1, h2⟩ := dp_tuple D1
      obtain ⟨b, us, rfl, h3, h4⟩ := dp_tuple D2
      refine ⟨a, b, ws, us, rfl, rfl, same_tup s h1, same_tup s h3, fun z => ?_, by rw [dpa_len h2, dpa_len h4]; exact hc.2, fun z => ?_, fun z p hp => ?_⟩
      · subst z
        cases h2
        exact hc.1 rfl
      · subst z
        cases h4
        refine k _ Z H (Nw.refl s) ?_
        rw [List.append_nil]
        exact .tup h1 h2
      · have n := Nw.new (o := .tup (ws ++ us)) s hp
        exact k _ _ _ n (.tup (.inl (.inl upd_same)) (dpa_mono n.z (dpa_app h2 h4)))
    · cases e
  · cases e
def dAdd : D → D → Option D := fun a b => ((((dI (fun _ _ => True) fun i j => .int (i + j)) a b).orElse fun _ => dAddS a b).orElse fun _ => dAddL a b).orElse fun _ => dAddT a b
theorem op_addA : OpR X (binaryOp .Add) (fun x y H Q => (((rI0 fun i j => .int (i + j)) x y H Q ∨ (∃ i j, x = .str i ∧ y = .str j ∧ i.length + j.length ≤ sizeLine ∧ Q (.str (i ++ j)) H)) ∨ rCat x y H Q) ∨ rCatT X.K x y H Q) :=
  opr_or (opr_or (opr_or op_add op_add_str) op_cat) op_catT
theorem se_add {a b : Expr} {p q : XE} (ha : SE X W a p) (hb : SE X W b q) : SE X W (.BinOp a .Add b pos) (eOp dAdd p q) :=
  se_op op_addA (ok2_or (ok2_or (ok2_or ok_I0 ok_addS) ok_addL) ok_addT) ha hb

/-! ### other arithmetic -/
def dSub : D → D → Option D := dI (fun _ _ => True) fun i j => .int (i - j)
def dMulI : D → D → Option D := dI CMul fun i j => .int (i * j)
def dMod : D → D → Option D := dI (fun _ j => 0 < j) fun i j => .int (i % j)
def dDiv : D → D → Option D := dI CDiv fun i j => .int (i / j)
def dPow : D → D → Option D := dI CPow fun i j => .int (i ^ j.toNat)
def dShl : D → D → Option D := dI CPow fun i j => .int (i * 2 ^ j.toNat)
def dShr : D → D → Option D := dI (fun _ j => 0 ≤ j) fun i j => .int (i / 2 ^ j.toNat)
def dAnd : D → D → Option D := dI (fun _ _ => True) fun i j => .int (Builtin.bitAnd i j)
theorem se_sub {a b : Expr} {p q : XE} (ha : SE X W a p) (hb : SE X W b q) : SE X W (.BinOp a .Sub b pos) (eOp dSub p q) := se_op op_sub ok_I0 ha hb
theorem se_mod {a b : Expr} {p q : XE} (ha : SE X W a p) (hb : SE X W b q) : SE X W (.BinOp a .Mod b pos) (eOp dMod p q) := se_op op_mod ok_I ha hb
theorem se_div {a b : Expr} {p q : XE} (ha : SE X W a p) (hb : SE X W b q) : SE X W (.BinOp a .FloorDiv b pos) (eOp dDiv p q) := se_op op_fdiv ok_I ha hb
theorem se_pow {a b : Expr} {p q : XE} (ha : SE X W a p) (hb : SE X W b q) : SE X W (.BinOp a .Pow b pos) (eOp dPow p q) := se_op op_pow ok_I ha hb
theorem se_shl {a b : Expr} {p q : XE} (ha : SE X W a p) (hb : SE X W b q) : SE X W (.BinOp a .LShift b pos) (eOp dShl p q) := se_op op_shl ok_I ha hb
theorem se_shr {a b : Expr} {p q : XE} (ha : SE X W a p) (hb : SE X W b q) : SE X W (.BinOp a .RShift b pos) (eOp dShr p q) := se_op op_shr ok_I ha hb
theorem se_bitand {a b : Expr} {p q : XE} (ha : SE X W a p) (hb : SE X W b q) : SE X W (.BinOp a .BitAnd b pos) (eOp dAnd p q) := se_op op_and ok_I0 ha hb
def dMulL : D → D → Option D
  | .list xs, .int k => if (-(2 ^ 63) ≤ k ∧ k < 2 ^ 63) ∧ xs.length * k.toNat ≤ sizeLine then some (.list (List.replicate k.toNat xs).flatten) else none
  | _, _ => none
theorem dpa_rep {K : Frag} {Z : Hp} {vs : List V} {ds : List D} (h : DqAll K Z vs ds) : ∀ n : Nat, DqAll K Z (List.replicate n vs).flatten (List.replicate n ds).flatten
  | 0 => .nil
  | n + 1 => by
    rw [List.replicate_succ, List.replicate_succ, List.flatten_cons, List.flatten_cons]
    exact dpa_app h (dpa_rep h n)
theorem ok_mulL {K : Frag} : Ok2 K rRep dMulL := by
  intro Z H x y d1 d2 d Q s D1 D2 e k
  unfold dMulL at e
  split at e
  · split at e
    · rename_i hc
      cases e
      obtain ⟨a, ws, rfl, h1, h2⟩ := dp_list D1
      cases dp_int D2
      refine ⟨a, _, ws, rfl, rfl, s _ _ h1, hc.1.1, hc.1.2, by rw [dpa_len h2]; exact hc.2, fun p hp => ?_⟩
      rename_i xs k0
      have n := Nw.new (o := .lst (List.replicate k0.toNat ws).flatten) s hp
      exact k _ _ _ n (.lst upd_same (dpa_mono n.z (dpa_rep h2 _)))
    · cases e
  · cases e
def dMul : D → D → Option D := fun a b => (dMulI a b).orElse fun _ => dMulL a b
theorem se_mul {a b : Expr} {p q : XE} (ha : SE X W a p) (hb : SE X W b q) : SE X W (.BinOp a .Mult b pos) (eOp dMul p q) :=
  se_op (opr_or op_mul op_rep) (ok2_or ok_I ok_mulL) ha hb

/-! ### comparisons -/
def scD : D → D → Option Bool
  | .str a, .str b => some (decide (a = b))
  | .int a, .int b => some (decide (a = b))
  | .bool a, .bool b => some (decide (a = b))
  | .none, .none => some true
  | .none, .str _ => some false
  | .str _, .none => some false
  | .none, .int _ => some false
  | .int _, .none => some false
  | .none, .bool _ => some false
  | .bool _, .none => some false
  | .str _, .int _ => some false
  | .int _, .str _ => some false
  | _, _ => none
theorem scD_of {K : Frag} {Z : Hp} {x y : V} {a b : D} {c : Bool} (h : scD a b = some c) (ha : Dq K Z x a) (hb : Dq K Z y b) : scal x y = true ∧ decide (x = y) = c := by
  unfold scD at h
  split at h <;> cases h <;> (first | cases dp_str ha | cases dp_int ha | cases dp_bool ha | cases dp_none ha) <;> (first | cases dp_str hb | cases dp_int hb | cases dp_bool hb | cases dp_none hb) <;> refine ⟨rfl, ?_⟩ <;> simp
def eqD (neg : Bool) (a b : D) : Option D := match scD a b with
  | some c => some (.bool (if neg then !c else c))
  | none => if SeqAt.shaped a = true ∧ SeqAt.shaped b = true then some (.bool (if neg then !PyData.eqv a b else PyData.eqv a b)) else none
def dEq : D → D → Option D := eqD false
def dNe : D → D → Option D := eqD true
theorem ok_eq {K : Frag} : Ok2 K (fun x y H Q => rEq x y H Q ∨ rEqD K x y H Q) dEq := by
  intro Z H x y d1 d2 d Q s D1 D2 e k
  unfold dEq eqD at e
  split at e
  · rename_i c hc
    cases e
    obtain ⟨h1, h2⟩ := scD_of hc D1 D2
    exact .inl ⟨h1, by rw [h2]; exact k _ Z H (Nw.refl s) (.bl _)⟩
  · split at e
    · rename_i hc
      cases e
      exact .inr ⟨d1, d2, (dp_mono s D1).dp, (dp_mono s D2).dp, hc.1, hc.2, k _ Z H (Nw.refl s) (.bl _)⟩
    · cases e
theorem ok_ne {K : Frag} : Ok2 K (fun x y H Q => rNe x y H Q ∨ rNeD K x y H Q) dNe := by
  intro Z H x y d1 d2 d Q s D1 D2 e k
  unfold dNe eqD at e
  split at e
  · rename_i c hc
    cases e
    obtain ⟨h1, h2⟩ := scD_of hc D1 D2
    exact .inl ⟨h1, by rw [h2]; exact k _ Z H (Nw.refl s) (.bl _)⟩
  · split at e
    · rename_i hc
      cases e
      exact .inr ⟨d1, d2, (dp_mono s D1).dp, (dp_mono s D2).dp, hc.1, hc.2, k _ Z H (Nw.refl s) (.bl _)⟩
    · cases e
def dLt : D → D → Option D := dI (fun _ _ => True) fun i j => .bool (decide (i < j))
def dLe : D → D → Option D := dI (fun _ _ => True) fun i j => .bool (decide (i ≤ j))
def dGt : D → D → Option D := dI (fun _ _ => True) fun i j => .bool (decide (j < i))
def dGe : D → D → Option D := dI (fun _ _ => True) fun i j => .bool (decide (j ≤ i))
theorem se_eq {a b : Expr} {p q : XE} (hu : X.A.units + 64 < cLine) (ha : SE X W a p) (hb : SE X W b q) : SE X W (.Compare a [.Eq] [b] pos) (eOp dEq p q) := se_cmp (opr_or op_eq (op_eqD hu)) ok_eq ha hb (nobehind _ (by decide) (by decide))
theorem se_ne {a b : Expr} {p q : XE} (hu : X.A.units + 64 < cLine) (ha : SE X W a p) (hb : SE X W b q) : SE X W (.Compare a [.NotEq] [b] pos) (eOp dNe p q) := se_cmp (opr_or op_ne (op_neD hu)) ok_ne ha hb (nobehind _ (by decide) (by decide))
theorem se_lt {a b : Expr} {p q : XE} (ha : SE X W a p) (hb : SE X W b q) : SE X W (.Compare a [.Lt] [b] pos) (eOp dLt p q) := se_cmp op_lt ok_B0 ha hb (nobehind _ (by decide) (by decide))
theorem se_le {a b : Expr} {p q : XE} (ha : SE X W a p) (hb : SE X W b q) : SE X W (.Compare a [.LtE] [b] pos) (eOp dLe p q) := se_cmp op_le ok_B0 ha hb (nobehind _ (by decide) (by decide))
theorem se_gt {a b : Expr} {p q : XE} (ha : SE X W a p) (hb : SE X W b q) : SE X W (.Compare a [.Gt] [b] pos) (eOp dGt p q) := se_cmp op_gt ok_B0 ha hb (nobehind _ (by decide) (by decide))
theorem se_ge {a b : Expr} {p q : XE} (ha : SE X W a p) (hb : SE X W b q) : SE X W (.Compare a [.GtE] [b] pos) (eOp dGe p q) := se_cmp op_ge ok_B0 ha hb (nobehind _ (by decide) (by decide))
theorem st_eq {a b : Expr} {p q : XE} (hu : X.A.units + 64 < cLine) (ha : SE X W a p) (hb : SE X W b q) : ST X W (.Compare a [.Eq] [b] pos) (tOf (eOp dEq p q)) := st_cmp (opr_or op_eq (op_eqD hu)) ok_eq ha hb (nobehind _ (by decide) (by decide))
theorem st_ne {a b : Expr} {p q : XE} (hu : X.A.units + 64 < cLine) (ha : SE X W a p) (hb : SE X W b q) : ST X W (.Compare a [.NotEq] [b] pos) (tOf (eOp dNe p q)) := st_cmp (opr_or op_ne (op_neD hu)) ok_ne ha hb (nobehind _ (by decide) (by decide))
theorem st_lt {a b : Expr} {p q : XE} (ha : SE X W a p) (hb : SE X W b q) : ST X W (.Compare a [.Lt] [b] pos) (tOf (eOp dLt p q)) := st_cmp op_lt ok_B0 ha hb (nobehind _ (by decide) (by decide))
theorem st_le {a b : Expr} {p q : XE} (ha : SE X W a p) (hb : SE X W b q) : ST X W (.Compare a [.LtE] [b] pos) (tOf (eOp dLe p q)) := st_cmp op_le ok_B0 ha hb (nobehind _ (by decide) (by decide))
theorem st_gt {a b : Expr} {p q : XE} (ha : SE X W a p) (hb : SE X W b q) : ST X W (.Compare a [.Gt] [b] pos) (tOf (eOp dGt p q)) := st_cmp op_gt ok_B0 ha hb (nobehind _ (by decide) (by decide))
theorem st_ge {a b : Expr} {p q : XE} (ha : SE X W a p) (hb : SE X W b q) : ST X W (.Compare a [.GtE] [b] pos) (tOf (eOp dGe p q)) := st_cmp op_ge ok_B0 ha hb (nobehind _ (by decide) (by decide))

/-! ### subscripts -/
def dIx : D → D → Option D
  | .list xs, .int i => atI xs i
  | .tuple xs, .int i => atI xs i
  | .str z, .int i => if z.length ≤ sizeLine then (atI z.cps.toList i).map fun c => .str ⟨#[c]⟩ else none
  | _, _ => none
theorem atI_dq {K : Frag} {Z : Hp} {vs : List V} {ds : List D} {i : Int} {d : D} (h : DqAll K Z vs ds) (e : atI ds i = some d) : ∃ v, atI vs i = some v ∧ Dq K Z v d := by
  unfold atI at e ⊢
  rw [dpa_len h]
  cases hn : ixN ds.length i with
  | none => rw [hn] at e; cases e
  | some j =>
    rw [hn] at e
    exact dpa_get h e
theorem ok_ix {K : Frag} : Ok2 K (fun x y H Q => rIxL K x y H Q ∨ rIxT K x y H Q ∨ rIxS x y H Q) dIx := by
  intro Z H x y d1 d2 d Q s D1 D2 e k
  unfold dIx at e
  split at e
  · obtain ⟨a, ws, rfl, h1, h2⟩ := dp_list D1
    cases dp_int D2
    obtain ⟨v, e1, e2⟩ := atI_dq h2 e
    exact .inl ⟨a, ws, _, v, rfl, rfl, .inl (.inl (s _ _ h1)), e1, k _ Z H (Nw.refl s) e2⟩
  · obtain ⟨a, ws, rfl, h1, h2⟩ := dp_tuple D1
    cases dp_int D2
    obtain ⟨v, e1, e2⟩ := atI_dq h2 e
    exact .inr (.inl ⟨a, ws, _, v, rfl, rfl, same_tup s h1, e1, k _ Z H (Nw.refl s) e2⟩)
  · split at e
    · cases dp_str D1
      cases dp_int D2
      rename_i z i hz
      cases hc : atI z.cps.toList i with
      | none => rw [hc] at e; cases e
      | some c =>
        rw [hc] at e
        cases e
        exact .inr (.inr ⟨z, i, c, rfl, rfl, hz, hc, k _ Z H (Nw.refl s) (.str _)⟩)
    · cases e
  · cases e
theorem se_ixA {a b : Expr} {p q : XE} (ha : SE X W a p) (hb : SE X W b q) (hs : PlainIx b) : SE X W (.Subscript a b pos) (eOp dIx p q) := se_ix (.or ix_list (.or ix_tup ix_str)) ok_ix ha hb hs
/-- xs[i], xs a name's own list: read as it is when the index is known -/
def eIxOwn (i : Nat) (q : XE) : XE := fun e => match e[i]? with
  | some (.own _ (.lst _)) => (q e).bind fun d e1 => match e1[i]? with
    | some (.own _ (.lst xs)) => R.lift (dIx (.list xs) d) e1
    | _ => .bad
  | _ => .bad
theorem se_ixOwn {i : Nat} {x : Str} {p : Pos} {b : Expr} {q : XE} (ha : PE X (.Name x p) (tVar i)) (hb : SE X W b q) (hs : PlainIx b) : SE X W (.Subscript (.Name x p) b pos) (eIxOwn i q) := by
  refine PE.imp (pe_ix ix_list ha hb hs) fun σ H Q ⟨B, e, Z, R0, hq⟩ => ?_
  unfold eIxOwn at hq
  split at hq
  · rename_i t ds he
    obtain ⟨a, u, h1, _⟩ := R0.own he
    refine ⟨_, h1, ?_⟩
    refine rg_bind R0 hq fun v1 Z1 e1 d1 H1 s1 R1 D1 g1 => ?_
    split at g1
    · rename_i t2 xs he2
      obtain ⟨d, ed, kk⟩ := pg_lift R1 g1
      obtain ⟨a2, u2, g2, g3, g4, ⟨vs, rfl, g5⟩, _⟩ := R1.own he2
      rw [h1] at g2
      cases g2
      cases D1 with
      | int k =>
        obtain ⟨v, z1, z2⟩ := atI_dq g5 (show atI xs k = some d from ed)
        exact ⟨a, vs, k, v, rfl, rfl, .inl (.inl g3), z1, kk _ Z1 H1 (Nw.refl R1.sub) z2⟩
      | non => cases ed
      | bl _ => cases ed
      | str _ => cases ed
      | lst _ _ => cases ed
      | tup _ _ => cases ed
    · exact g1.elim
  · exact hq.elim
/-- xs[i] = e, xs a name's own list -/
def sSetIx (i : Nat) (q p : XE) : XS := fun e => (p e).bind fun d e1 => match e1[i]? with
  | some (.own _ (.lst _)) => (q e1).bind fun k e2 => match e2[i]?, k with
    | some (.own t (.lst xs)), .int k => match ixN xs.length k with
      | some j => .ok .nx (e2.set i (.own t (.lst (xs.set j d))))
      | none => .bad
    | _, _ => .bad
  | _ => .bad
theorem ss_setIx {i : Nat} {x : Str} {px ps : Pos} {b v : Expr} {q p : XE} (ha : PE X (.Name x px) (tVar i)) (hb : SE X W b q) (hv : SE X W v p)
    (hs : swapsWithSole [.Subscript (.Name x px) b ps] v pos.line X.env = pure false := by rfl) (hw : swappedStores [.Subscript (.Name x px) b ps] v X.env = pure none := by rfl)
    (h1 : (assignEach [.Subscript (.Name x px) b ps] X.env).map (·.2) = [assign (.Subscript (.Name x px) b ps) X.env] := by rfl)
    (h2 : ∀ w, assign (.Subscript (.Name x px) b ps) X.env w = (do
      let ov ← holding [w] (eval (.Name x px) X.env)
      let iv ← holding [w, ov] (eval b X.env)
      standAt ps
      holding [w, ov, iv] (setItem ov iv w)
      release [w, ov, iv] []) := by intro _; rfl) : SS X W (.Assign [.Subscript (.Name x px) b ps] v pos) (sSetIx i q p) := by
  refine PS.imp (ps_asg hv (pg_sub ha hb set_list h2) hs hw h1) fun Dn σ H ⟨B, e, Z, R0, hq⟩ => ?_
  refine rs_bind R0 hq fun v1 Z1 e1 d1 H1 s1 R1 D1 g1 => ?_
  split at g1
  · rename_i t ds he
    obtain ⟨a, u, h1, _⟩ := R1.own he
    refine ⟨_, h1, ?_⟩
    refine rs_bind R1 g1 fun v2 Z2 e2 d2 H2 s2 R2 D2 g2 => ?_
    split at g2
    · rename_i t2 xs k he2
      obtain ⟨a2, u2, z2, z3, z4, ⟨vs, rfl, z5⟩, _⟩ := R2.own he2
      rw [h1] at z2
      cases z2
      cases dp_int D2
      cases hj : ixN xs.length k with
      | none => rw [hj] at g2; exact g2.elim
      | some j =>
        rw [hj] at g2
        exact ⟨a, vs, k, j, rfl, rfl, z3, by rw [dpa_len z5]; exact hj, g2 σ Z2 _ (Same.refl _) (R2.write he2 h1 ⟨_, rfl, dpa_set (dp_mono s2 D1) j z5⟩)⟩
    · exact g2.elim
  · exact g1.elim
/-- a method that changes a name's own list -/
def OkMut (K : Frag) (r : V → List V → Hp → VK → Prop) (g : List D → List D → Option (D × List D)) : Prop :=
  ∀ Z H l xs vs ds as d ys (Q : VK), Same Z H → H l = some (.lst xs) → Z l = none → DqAll K Z xs ds → DqAll K Z vs as → g ds as = some (d, ys) → (∀ v ws, DqAll K Z ws ys → Dq K Z v d → Q v (upd H l (.lst ws))) → r (.ref l) vs H Q
def eMut (i : Nat) (g : List D → List D → Option (D × List D)) (q : XA) : XE := fun e => match e[i]? with
  | some (.own _ (.lst _)) => (q e).bind fun as e1 => match e1[i]? with
    | some (.own t (.lst xs)) => match g xs as with
      | some (d, ys) => .ok d (e1.set i (.own t (.lst ys)))
      | none => .bad
    | _ => .bad
  | _ => .bad
theorem mut_imp {i : Nat} {r : V → List V → Hp → VK → Prop} {g : List D → List D → Option (D × List D)} {q : XA} (ok : OkMut X.K r g) {σ : L2.St} {H : Hp} {Q : VK} (h : RE X.K X.mg W (eMut i g q) σ H Q) :
    tBM X.K "list" r (tVar i) (RA X.K X.mg W q) σ H Q := by
  obtain ⟨B, e, Z, R0, hq⟩ := h
  unfold eMut at hq
  split at hq
  · rename_i t ds he
    obtain ⟨a, u, h1, h2, h3, ⟨vs, rfl, _⟩, _⟩ := R0.own he
    refine ⟨_, h1, .inl ⟨rfl, _, .inl (.inl h2)⟩, ?_⟩
    refine rg_bind R0 hq fun v1 Z1 e1 d1 H1 s1 R1 D1 g1 => ?_
    split at g1
    · rename_i t2 xs he2
      obtain ⟨a2, u2, z2, z3, z4, ⟨vs2, rfl, z5⟩, _⟩ := R1.own he2
      rw [h1] at z2
      cases z2
      cases hg : g xs d1 with
      | none => rw [hg] at g1; exact g1.elim
      | some dy =>
        obtain ⟨d, ys⟩ := dy
        rw [hg] at g1
        exact ok Z1 H1 a vs2 v1 xs d1 d ys Q R1.sub z3 z4 z5 D1 hg fun v ws hw hd => g1 v Z1 _ (Same.refl _) (R1.write he2 h1 ⟨ws, rfl, hw⟩) hd
    · exact g1.elim
  · exact hq.elim
theorem mut_imp0 {i : Nat} {r : V → List V → Hp → VK → Prop} {g : List D → List D → Option (D × List D)} (ok : OkMut X.K r g) {σ : L2.St} {H : Hp} {Q : VK} (h : RE X.K X.mg W (eMut i g aNil) σ H Q) :
    tBM0 X.K "list" r (tVar i) σ H Q := by
  obtain ⟨B, e, Z, R0, hq⟩ := h
  unfold eMut at hq
  split at hq
  · rename_i t ds he
    obtain ⟨a, u, h1, h2, h3, ⟨vs, rfl, z5⟩, _⟩ := R0.own he
    refine ⟨_, h1, .inl ⟨rfl, _, .inl (.inl h2)⟩, ?_⟩
    simp only [aNil, R.bind_ok, he] at hq
    cases hg : g ds [] with
    | none => rw [hg] at hq; exact hq.elim
    | some dy =>
      obtain ⟨d, ys⟩ := dy
      rw [hg] at hq
      exact ok Z H a vs [] ds [] d ys Q R0.sub h2 h3 z5 .nil hg fun v ws hw hd => hq v Z _ (Same.refl _) (R0.write he h1 ⟨ws, rfl, hw⟩) hd
  · exact hq.elim
def mAppend : List D → List D → Option (D × List D)
  | xs, [y] => if xs.length < sizeLine then some (.none, xs ++ [y]) else none
  | _, _ => none
theorem ok_append {K : Frag} : OkMut K rAppend mAppend := by
  intro Z H l xs vs ds as d ys Q s h1 h2 h3 h4 e k
  unfold mAppend at e
  split at e
  · split at e
    · cases e
      obtain ⟨v, rfl, hv⟩ := dpa_1 h4
      exact ⟨l, xs, v, rfl, rfl, h1, by rw [dpa_len h3]; assumption, k _ _ (dpa_app h3 (.cons hv .nil)) .non⟩
    · cases e
  · cases e
def mExtend : List D → List D → Option (D × List D)
  | xs, [.list ys] => if xs.length + ys.length ≤ sizeLine then some (.none, xs ++ ys) else none
  | _, _ => none
theorem ok_extend {K : Frag} : OkMut K rExtend mExtend := by
  intro Z H l xs vs ds as d ys Q s h1 h2 h3 h4 e k
  unfold mExtend at e
  split at e
  · split at e
    · cases e
      obtain ⟨v, rfl, hv⟩ := dpa_1 h4
      obtain ⟨b, us, rfl, g1, g2⟩ := dp_list hv
      exact ⟨l, b, xs, us, rfl, rfl, h1, s _ _ g1, by rw [dpa_len h3, dpa_len g2]; assumption, k _ _ (dpa_app h3 g2) .non⟩
    · cases e
  · cases e
theorem se_append {i : Nat} {x : Str} {px ap pos : Pos} {a : Expr} {q : XA} (hx : PE X (.Name x px) (tVar i)) (ha : SA X W [a] q)
    (hbase : attributeBase (.Name x px) "append" X.env (eval (.Name x px) X.env) = eval (.Name x px) X.env := by rfl)
    (hfew : ((backTo pos (starEach [a] X.env)).all (fun x => !x.1) && (backToKw pos (keywordEach [] X.env)).all (fun x => x.1.isSome)
      && decide ([a].length + ([] : List Keyword).length + (if ([] : List Keyword).isEmpty then 0 else 1) < 30)) = true := by rfl)
    (hline : (ap.endLine == pos.line) = true := by rfl) (hs : starEach [a] X.env = (false, eval a X.env) :: starEach [] X.env := by rfl) (hplain : (backTo pos (starEach [] X.env)).any (·.1) = false := by rfl) :
    SE X W (.Call (.Attribute (.Name x px) "append" ap) [a] [] pos) (eMut i mAppend q) :=
  PE.imp (pe_bm PySem.F.plainAttrs_list PySem.F.slot_list_append PySem.F.type_list_append mt_append hx ha hbase hfew hline hs hplain) fun _ _ _ => mut_imp ok_append
theorem se_extend {i : Nat} {x : Str} {px ap pos : Pos} {a : Expr} {q : XA} (hx : PE X (.Name x px) (tVar i)) (ha : SA X W [a] q)
    (hbase : attributeBase (.Name x px) "extend" X.env (eval (.Name x px) X.env) = eval (.Name x px) X.env := by rfl)
    (hfew : ((backTo pos (starEach [a] X.env)).all (fun x => !x.1) && (backToKw pos (keywordEach [] X.env)).all (fun x => x.1.isSome)
      && decide ([a].length + ([] : List Keyword).length + (if ([] : List Keyword).isEmpty then 0 else 1) < 30)) = true := by rfl)
    (hline : (ap.endLine == pos.line) = true := by rfl) (hs : starEach [a] X.env = (false, eval a X.env) :: starEach [] X.env := by rfl) (hplain : (backTo pos (starEach [] X.env)).any (·.1) = false := by rfl) :
    SE X W (.Call (.Attribute (.Name x px) "extend" ap) [a] [] pos) (eMut i mExtend q) :=
  PE.imp (pe_bm PySem.F.plainAttrs_list PySem.F.slot_list_extend PySem.F.type_list_extend mt_extend hx ha hbase hfew hline hs hplain) fun _ _ _ => mut_imp ok_extend
end
end G
set_option Elab.async false
set_option linter.all false
set_option maxRecDepth 100000
/-! zip of any two of: lists, tuples, texts -/
namespace G
open PySem PySem.Spec PyProof.Rows L2
open PySem.Sem (wp)

/-- one of the two iterators within a zip; ls: what it leans on -/
structure Inn (prog : Program) (w : World) (it : Addr) (ls : List Addr) (n : Nat) (Y : Nat → Value → Prop) (tn : Nat → Heap → Prop) : Prop where
  obj : ∀ i h, tn i h → ∃ o, h.get? it = some o ∧ ∀ v, o.data ≠ .cell v
  keep : ∀ i h h', tn i h → (∀ b, b = it ∨ b ∈ ls → ∀ o, h.get? b = some o → h'.get? b = some o) → tn i h'
  item : ∀ (A : Around) i (s : Shared) (Q : Value → Shared → Prop) (E : Value → Shared → Prop), A.handled = none → i < n → tn i s.heap →
    (∀ v h' t', Y i v → tn (i + 1) h' → Heap.SameBut it s.heap h' → Q v { s with heap := h', toks := t' }) → wpAny (model prog w) A (Builtin.SmallTypes.nextOf (.ref it)) Q E s
  done : ∀ (A : Around) (s : Shared) (Q : Value → Shared → Prop) (E : Value → Shared → Prop), A.handled = none → tn n s.heap →
    (∀ h' e, Heap.ExtBut it s.heap h' → (∃ o, h'.get? e = some o ∧ o.cls = .type "StopIteration") → E (.ref e) { s with heap := h' }) → wpAny (model prog w) A (Builtin.SmallTypes.nextOf (.ref it)) Q E s

section
variable {prog : Program} {w : World} {A : Around} {E : Value → Shared → Prop} {s : Shared}
theorem inn_list (it l : Addr) (xs : Array Value) : Inn prog w it [l] xs.size (fun i v => xs[i]? = some v) (fun i h => h.IsListIter it l i ∧ h.IsList l xs) where
  obj := fun i h ⟨⟨o, e, _, d⟩, _⟩ => ⟨o, e, fun v z => by rw [d] at z; cases z⟩
  keep := fun i h h' ⟨a, b⟩ k => ⟨a.at fun o e => k it (.inl rfl) o e, b.at fun o e => k l (.inr (by simp)) o e⟩
  item := fun A i s Q E hh hi ⟨a, b⟩ hQ => wpAny_nextOf_list_item a b (Array.getElem?_eq_getElem hi) fun h' a' sb => hQ _ h' s.toks (Array.getElem?_eq_getElem hi) ⟨a', b.at fun o e => (sb.2 l (fun z => by
      subst z
      obtain ⟨o1, e1, c1, _⟩ := a
      obtain ⟨o2, e2, c2, _⟩ := b
      rw [e1] at e2
      cases e2
      rw [c1] at c2
      simp at c2)).trans e⟩ sb
  done := fun A s Q E hh ⟨a, b⟩ hE => wpAny_nextOf_list_end hh a b (Array.getElem?_eq_none (Nat.le_refl _)) hE
theorem inn_tup (it l : Addr) (xs : Array Value) : Inn prog w it [l] xs.size (fun i v => xs[i]? = some v) (fun i h => h.IsTupleIter it l i ∧ h.IsTuple l xs) where
  obj := fun i h ⟨⟨o, e, _, d⟩, _⟩ => ⟨o, e, fun v z => by rw [d] at z; cases z⟩
  keep := fun i h h' ⟨a, b⟩ k => ⟨a.at fun o e => k it (.inl rfl) o e, b.at fun o e => k l (.inr (by simp)) o e⟩
  item := fun A i s Q E hh hi ⟨a, b⟩ hQ => RZ.nextOf_tuple_item a b (Array.getElem?_eq_getElem hi) fun h' a' sb => hQ _ h' s.toks (Array.getElem?_eq_getElem hi) ⟨a', b.at fun o e => (sb.2 l (fun z => by
      subst z
      obtain ⟨o1, e1, c1, _⟩ := a
      obtain ⟨o2, e2, c2, _⟩ := b
      rw [e1] at e2
      cases e2
      rw [c1] at c2
      simp at c2)).trans e⟩ sb
  done := fun A s Q E hh ⟨a, b⟩ hE => RZ.nextOf_tuple_end hh a b (Array.getElem?_eq_none (Nat.le_refl _)) hE
theorem nextOf_ascii {it : Addr} {x : Str} {t : Tok} {i c : Nat} {Q : Value → Shared → Prop} (hit : s.heap.IsStrIter it "str_ascii_iterator" x t i) (hx : x.cps[i]? = some c)
    (hQ : ∀ h', h'.IsStrIter it "str_ascii_iterator" x t (i + 1) → Heap.SameBut it s.heap h' → Q (.str ⟨#[c]⟩ s.toks) { s with heap := h', toks := s.toks + 1 }) : wpAny (model prog w) A (Builtin.SmallTypes.nextOf (.ref it)) Q E s := by
  obtain ⟨o, ho, hcl, hda⟩ := _root_.id hit
  unfold Builtin.SmallTypes.nextOf
  refine wpAny_bind (wpAny_callSpecial?_slot (name := Str.ofString "__next__") hit.typeIs F.slot_str_ascii_iterator_next (wpAny_call_entry F.slot_str_ascii_iterator_next hit.typeIs F.entry_str_ascii_iterator_next ?_ (F.args_str_ascii_iterator_next_1 _)))
  show wpAny _ _ (field (.ref it) 0 >>= _) _ _ s
  refine wpAny_bind (wpAny_field ho hda (x := .str x t) rfl ?_)
  show wpAny _ _ (field (.ref it) 1 >>= _) _ _ s
  refine wpAny_bind (wpAny_field ho hda (x := .int i 0) rfl ?_)
  simp only [Int.toNat_natCast, hx]
  refine wpAny_bind (wpAny_setField ho hda (by simp) (wpAny_bind (wpAny_mkStr (wpAny_pure ⟨_, rfl, wpAny_pure (hQ _ ?_ (Heap.SameBut.update ..))⟩) (by show 1 ≤ sizeLine; decide))))
  exact ⟨_, Heap.get?_update_self _ ho (Obj.isFreed_of_fields (Obj.data_mapFields hda _)), (Obj.cls_mapFields ..).trans hcl, by rw [Obj.data_mapFields hda]; simp [rawInt]⟩
theorem nextOf_wide {it : Addr} {x : Str} {t : Tok} {i c : Nat} {Q : Value → Shared → Prop} (hit : s.heap.IsStrIter it "str_iterator" x t i) (hx : x.cps[i]? = some c)
    (hQ : ∀ h', h'.IsStrIter it "str_iterator" x t (i + 1) → Heap.SameBut it s.heap h' → Q (.str ⟨#[c]⟩ s.toks) { s with heap := h', toks := s.toks + 1 }) : wpAny (model prog w) A (Builtin.SmallTypes.nextOf (.ref it)) Q E s := by
  obtain ⟨o, ho, hcl, hda⟩ := _root_.id hit
  unfold Builtin.SmallTypes.nextOf
  refine wpAny_bind (wpAny_callSpecial?_slot (name := Str.ofString "__next__") hit.typeIs F.slot_str_iterator_next (wpAny_call_entry F.slot_str_iterator_next hit.typeIs F.entry_str_iterator_next ?_ (F.args_str_iterator_next_1 _)))
  show wpAny _ _ (field (.ref it) 0 >>= _) _ _ s
  refine wpAny_bind (wpAny_field ho hda (x := .str x t) rfl ?_)
  show wpAny _ _ (field (.ref it) 1 >>= _) _ _ s
  refine wpAny_bind (wpAny_field ho hda (x := .int i 0) rfl ?_)
  simp only [Int.toNat_natCast, hx]
  refine wpAny_bind (wpAny_setField ho hda (by simp) (wpAny_bind (wpAny_mkStr (wpAny_pure ⟨_, rfl, wpAny_pure (hQ _ ?_ (Heap.SameBut.update ..))⟩) (by show 1 ≤ sizeLine; decide))))
  exact ⟨_, Heap.get?_update_self _ ho (Obj.isFreed_of_fields (Obj.data_mapFields hda _)), (Obj.cls_mapFields ..).trans hcl, by rw [Obj.data_mapFields hda]; simp [rawInt]⟩
theorem stop_raised {it : Addr} {h1 : Heap} (hh : A.handled = none) (k : Heap.ExtBut it s.heap h1)
    (hE : ∀ h' e, Heap.ExtBut it s.heap h' → (∃ o, h'.get? e = some o ∧ o.cls = .type "StopIteration") → E (.ref e) { s with heap := h' }) {Q : Fin → Shared → Prop} :
    wpAny (model prog w) A (newExc (.type "StopIteration") [] >>= fun e => raiseNew e) Q E { s with heap := h1 } := by
  refine wpAny_bind ?_
  simp only [newExc, newTuple]
  refine wpAny_bind (wpAny_newObj_type ?_ (by size_fits))
  refine wpAny_bind (m := firstArgMember _ _) (wpAny_of_eq (a := Value.none) (by first | rfl | (simp only [firstArgMember]; rfl)) ?_)
  refine wpAny_newObj_type ?_ (by size_fits)
  simp only [raiseNew]
  refine wpAny_bind (wpAny_handled ?_)
  rw [hh]
  refine wpAny_bind (wpAny_pure (wpAny_throw ?_))
  exact hE _ _ ((k.push _).push _) ⟨_, Heap.get?_push_size _ rfl, rfl⟩
theorem nextOf_ascii_end {it : Addr} {x : Str} {t : Tok} {i : Nat} {Q : Value → Shared → Prop} (hh : A.handled = none) (hit : s.heap.IsStrIter it "str_ascii_iterator" x t i) (hx : x.cps[i]? = none)
    (hE : ∀ h' e, Heap.ExtBut it s.heap h' → (∃ o, h'.get? e = some o ∧ o.cls = .type "StopIteration") → E (.ref e) { s with heap := h' }) : wpAny (model prog w) A (Builtin.SmallTypes.nextOf (.ref it)) Q E s := by
  obtain ⟨o, ho, hcl, hda⟩ := _root_.id hit
  unfold Builtin.SmallTypes.nextOf
  refine wpAny_bind (wpAny_callSpecial?_slot (name := Str.ofString "__next__") hit.typeIs F.slot_str_ascii_iterator_next (wpAny_call_entry F.slot_str_ascii_iterator_next hit.typeIs F.entry_str_ascii_iterator_next ?_ (F.args_str_ascii_iterator_next_1 _)))
  show wpAny _ _ (field (.ref it) 0 >>= _) _ _ s
  refine wpAny_bind (wpAny_field ho hda (x := .str x t) rfl ?_)
  show wpAny _ _ (field (.ref it) 1 >>= _) _ _ s
  refine wpAny_bind (wpAny_field ho hda (x := .int i 0) rfl ?_)
  simp only [Int.toNat_natCast, hx]
  refine wpAny_bind (wpAny_rule (wpAny_bind (wpAny_setField ho hda (by simp) (wpAny_bind (wpAny_letGo ?_)))))
  exact stop_raised (A := A.in1) (it := it) hh (Heap.SameBut.update ..).extBut hE
theorem nextOf_wide_end {it : Addr} {x : Str} {t : Tok} {i : Nat} {Q : Value → Shared → Prop} (hh : A.handled = none) (hit : s.heap.IsStrIter it "str_iterator" x t i) (hx : x.cps[i]? = none)
    (hE : ∀ h' e, Heap.ExtBut it s.heap h' → (∃ o, h'.get? e = some o ∧ o.cls = .type "StopIteration") → E (.ref e) { s with heap := h' }) : wpAny (model prog w) A (Builtin.SmallTypes.nextOf (.ref it)) Q E s := by
  obtain ⟨o, ho, hcl, hda⟩ := _root_.id hit
  unfold Builtin.SmallTypes.nextOf
  refine wpAny_bind (wpAny_callSpecial?_slot (name := Str.ofString "__next__") hit.typeIs F.slot_str_iterator_next (wpAny_call_entry F.slot_str_iterator_next hit.typeIs F.entry_str_iterator_next ?_ (F.args_str_iterator_next_1 _)))
  show wpAny _ _ (field (.ref it) 0 >>= _) _ _ s
  refine wpAny_bind (wpAny_field ho hda (x := .str x t) rfl ?_)
  show wpAny _ _ (field (.ref it) 1 >>= _) _ _ s
  refine wpAny_bind (wpAny_field ho hda (x := .int i 0) rfl ?_)
  simp only [Int.toNat_natCast, hx]
  refine wpAny_bind (wpAny_rule (wpAny_bind (wpAny_setField ho hda (by simp) (wpAny_bind (wpAny_letGo ?_)))))
  exact stop_raised (A := A.in1) (it := it) hh (Heap.SameBut.update ..).extBut hE
theorem inn_str (it : Addr) (x : Str) (t : Tok) (ty : String) (hty : ty = "str_ascii_iterator" ∨ ty = "str_iterator") : Inn prog w it [] x.cps.size (fun i v => ∃ c u, x.cps[i]? = some c ∧ v = .str ⟨#[c]⟩ u) (fun i h => h.IsStrIter it ty x t i) where
  obj := fun i h ⟨o, e, _, d⟩ => ⟨o, e, fun v z => by rw [d] at z; cases z⟩
  keep := fun i h h' ⟨o, e, r⟩ k => ⟨o, k it (.inl rfl) o e, r⟩
  item := fun A i s Q E hh hi a hQ => by
    rcases hty with e | e
    · subst e
      exact nextOf_ascii a (Array.getElem?_eq_getElem hi) fun h' a' sb => hQ _ h' _ ⟨_, _, Array.getElem?_eq_getElem hi, rfl⟩ a' sb
    · subst e
      exact nextOf_wide a (Array.getElem?_eq_getElem hi) fun h' a' sb => hQ _ h' _ ⟨_, _, Array.getElem?_eq_getElem hi, rfl⟩ a' sb
  done := fun A s Q E hh a hE => by
    rcases hty with e | e
    · subst e
      exact nextOf_ascii_end hh a (Array.getElem?_eq_none (Nat.le_refl _)) hE
    · subst e
      exact nextOf_wide_end hh a (Array.getElem?_eq_none (Nat.le_refl _)) hE
/-- how the parts of a zip stand apart -/
structure Zap (z TI TO i1 i2 : Addr) (l1 l2 : List Addr) : Prop where
  nd : [z, TI, TO, i1, i2].Nodup
  a1 : ∀ b ∈ l1, b ∉ [z, TI, TO, i1, i2]
  a2 : ∀ b ∈ l2, b ∉ [z, TI, TO, i1, i2]
section
variable {n1 n2 : Nat} {Y1 Y2 : Nat → Value → Prop} {t1 t2 : Nat → Heap → Prop} {z TI TO i1 i2 : Addr} {l1 l2 : List Addr}
theorem Zap.ne (D : Zap z TI TO i1 i2 l1 l2) : (TI ≠ z ∧ TO ≠ z ∧ i1 ≠ z ∧ i2 ≠ z) ∧ (TO ≠ TI ∧ i1 ≠ TI ∧ i2 ≠ TI) ∧ (i1 ≠ TO ∧ i2 ≠ TO) ∧ i2 ≠ i1 := by
  have h := D.nd
  simp only [List.nodup_cons, List.mem_cons, not_or, List.not_mem_nil, not_false_eq_true, List.nodup_nil, and_true] at h
  obtain ⟨⟨h1, h2, h3, h4⟩, ⟨h5, h6, h7⟩, ⟨h8, h9⟩, h10⟩ := h
  exact ⟨⟨Ne.symm h1, Ne.symm h2, Ne.symm h3, Ne.symm h4⟩, ⟨Ne.symm h5, Ne.symm h6, Ne.symm h7⟩, ⟨Ne.symm h8, Ne.symm h9⟩, Ne.symm h10⟩
/-- an inner iterator is kept where its own object and what it leans on are -/
theorem Inn.but {it : Addr} {ls : List Addr} {n : Nat} {Y : Nat → Value → Prop} {tn : Nat → Heap → Prop} (I : Inn prog w it ls n Y tn) {i : Nat} {h h' : Heap} {c : Addr} (t : tn i h) (k : Heap.ExtBut c h h') (h1 : c ≠ it) (h2 : c ∉ ls) : tn i h' :=
  I.keep i h h' t fun b hb o e => k b o (fun q => by
    subst q
    rcases hb with hb | hb
    · exact h1 hb
    · exact h2 hb) e
theorem zg_item {hh : A.handled = none} (D : Zap z TI TO i1 i2 l1 l2) (I1 : Inn prog w i1 l1 n1 Y1 t1) (I2 : Inn prog w i2 l2 n2 Y2 t2) {k : Nat} {a b : Value} {Q : Value → Shared → Prop}
    (hz : IsZip s.heap z TI TO .none) (hTI : IsPair s.heap TI (.ref i1) (.ref i2)) (hTO : IsPair s.heap TO a b) (h1 : t1 k s.heap) (h2 : t2 k s.heap) (k1 : k < n1) (k2 : k < n2)
    (hQ : ∀ h' t' x y, Y1 k x → Y2 k y → IsZip h' z TI TO (rawInt s.heap.objs.size) → IsPair h' TO x y → t1 (k + 1) h' → t2 (k + 1) h' → IsPair h' s.heap.objs.size x y → h'.objs.size = s.heap.objs.size + 1 →
      (∀ c o, c ≠ z → c ≠ TO → c ≠ i1 → c ≠ i2 → s.heap.get? c = some o → h'.get? c = some o) → Q (.ref s.heap.objs.size) { s with heap := h', toks := t' }) :
    wpAny (model prog w) A (Builtin.«zip.__next__» ⟨[.ref z], []⟩) (fun fin s' => ∃ v, fin = .done (.ret v) ∧ Q v s') E s := by
  obtain ⟨⟨nTIz, nTOz, n1z, n2z⟩, ⟨nTOTI, n1TI, n2TI⟩, ⟨n1TO, n2TO⟩, n21⟩ := D.ne
  have zl1 : z ∉ l1 := fun q => D.a1 z q (by simp)
  have zl2 : z ∉ l2 := fun q => D.a2 z q (by simp)
  have Tl1 : TO ∉ l1 := fun q => D.a1 TO q (by simp)
  have Tl2 : TO ∉ l2 := fun q => D.a2 TO q (by simp)
  have i1l1 : i1 ∉ l1 := fun q => D.a1 i1 q (by simp)
  have i1l2 : i1 ∉ l2 := fun q => D.a2 i1 q (by simp)
  have i2l1 : i2 ∉ l1 := fun q => D.a1 i2 q (by simp)
  show wpAny _ _ (field (.ref z) 2 >>= _) _ _ _
  refine wpAny_bind (wpAny_field hz rfl (x := .bool false) rfl ?_)
  show wpAny _ _ (field (.ref z) 3 >>= _) _ _ _
  refine wpAny_bind (wpAny_field hz rfl (x := .ref TI) rfl ?_)
  refine wpAny_bind (wpAny_seqItems hTI rfl ?_)
  show wpAny _ _ (Builtin.SmallTypes.ownedTupleIsFree (.ref z) >>= _) _ _ _
  refine wpAny_bind ?_
  unfold Builtin.SmallTypes.ownedTupleIsFree
  refine wpAny_bind (wpAny_field hz rfl (x := .none) rfl (wpAny_pure ?_))
  simp only [if_true]
  refine wpAny_bind (wpAny_rule ?_)
  refine wpAny_bind (wpAny_field hz rfl (x := .ref TO) rfl ?_)
  refine wpAny_bind (wpAny_setField_rec hz (by simp) fun g1 z1 s1 => ?_)
  replace z1 : IsZip g1 z TI TO .ellipsis := z1
  refine wpAny_bind ?_
  simp only [List.zipIdx_cons, List.zipIdx_nil, List.forIn_cons, List.forIn_nil]
  -- the first
  refine wpAny_bind (wpAny_bind (wpAny_onRaise ?_))
  show wpAny _ _ (Builtin.SmallTypes.nextOf (.ref i1) >>= _) _ _ _
  refine wpAny_bind (I1.item _ k _ _ _ hh k1 (I1.but h1 s1.extBut n1z.symm zl1) fun x g2 tk2 y1 u1 s2 => wpAny_pure ?_)
  have o2 : IsPair g2 TO a b := s2.extBut _ _ n1TO.symm (s1.extBut _ _ nTOz hTO)
  refine wpAny_bind (wpAny_seqItems o2 rfl ?_)
  refine wpAny_bind (wpAny_updateSeq_pair o2 fun g3 o3 s3 => ?_)
  replace o3 : IsPair g3 TO x b := o3
  refine wpAny_bind (wpAny_letGo (wpAny_pure ?_))
  -- the second
  refine wpAny_bind (wpAny_bind (wpAny_onRaise ?_))
  show wpAny _ _ (Builtin.SmallTypes.nextOf (.ref i2) >>= _) _ _ _
  refine wpAny_bind (I2.item _ k _ _ _ hh k2 (I2.but (I2.but (I2.but h2 s1.extBut n2z.symm zl2) s2.extBut n21.symm i1l2) s3.extBut n2TO.symm Tl2) fun y g4 tk4 y2 u2 s4 => wpAny_pure ?_)
  have o4 : IsPair g4 TO x b := s4.extBut _ _ n2TO.symm o3
  refine wpAny_bind (wpAny_seqItems o4 rfl ?_)
  refine wpAny_bind (wpAny_updateSeq_pair o4 fun g5 o5 s5 => ?_)
  replace o5 : IsPair g5 TO x y := o5
  refine wpAny_bind (wpAny_letGo (wpAny_pure (wpAny_pure ?_)))
  refine wpAny_bind (wpAny_seqItems o5 rfl ?_)
  refine wpAny_bind (wpAny_newTuple ?_)
  have size : g5.objs.size = s.heap.objs.size := by rw [s5.1, s4.1, s3.1, s2.1, s1.1]
  have z5 : IsZip g5 z TI TO .ellipsis := s5.extBut _ _ nTOz.symm (s4.extBut _ _ n2z.symm (s3.extBut _ _ nTOz.symm (s2.extBut _ _ n1z.symm z1)))
  have k5 : ∀ c o, c ≠ z → c ≠ TO → c ≠ i1 → c ≠ i2 → s.heap.get? c = some o → g5.get? c = some o := fun c o c1 c2 c3 c4 e => s5.extBut _ _ c2 (s4.extBut _ _ c4 (s3.extBut _ _ c2 (s2.extBut _ _ c3 (s1.extBut _ _ c1 e))))
  have u5 : t1 (k + 1) g5 := I1.but (I1.but (I1.but u1 s3.extBut n1TO.symm Tl1) s4.extBut n21 i2l1) s5.extBut n1TO.symm Tl1
  have v5 : t2 (k + 1) g5 := I2.but u2 s5.extBut n2TO.symm Tl2
  have hzl : z < g5.objs.size := Heap.lt_size z5
  show wpAny _ _ (Builtin.SmallTypes.ownedTupleHandOut (.ref z) (.ref g5.objs.size) >>= _) _ _ _
  refine wpAny_bind ?_
  unfold Builtin.SmallTypes.ownedTupleHandOut
  have z6 : IsZip (g5.push { cls := .type "tuple", data := .seq #[x, y] }) z TI TO .ellipsis := Heap.get?_push_of_some _ z5
  refine wpAny_bind (wpAny_setField_rec z6 (by simp) fun g7 z7 s7 => ?_)
  replace z7 : IsZip g7 z TI TO (rawInt g5.objs.size) := z7
  refine wpAny_setField_rec z7 (by simp) fun g8 z8 s8 => ?_
  replace z8 : IsZip g8 z TI TO (rawInt g5.objs.size) := z8
  have up : ∀ c o, c ≠ z → g5.get? c = some o → g8.get? c = some o := fun c o c1 e => s8.extBut _ _ c1 (s7.extBut _ _ c1 (Heap.get?_push_of_some _ e))
  have T8 : IsPair g8 g5.objs.size x y := s8.extBut _ _ (Nat.ne_of_gt hzl) (s7.extBut _ _ (Nat.ne_of_gt hzl) (Heap.get?_push_size _ rfl))
  have sz8 : g8.objs.size = g5.objs.size + 1 := by rw [s8.1, s7.1, Heap.size_push]
  rw [size] at z8 T8 sz8
  refine wpAny_pure ⟨_, rfl, ?_⟩
  show Q (.ref g5.objs.size) _
  rw [size]
  exact hQ g8 _ x y y1 y2 z8 (up _ _ nTOz o5) (I1.keep _ _ _ u5 fun c hc o e => up c o (fun q => by
    subst q
    rcases hc with hc | hc
    · exact n1z hc.symm
    · exact zl1 hc) e) (I2.keep _ _ _ v5 fun c hc o e => up c o (fun q => by
    subst q
    rcases hc with hc | hc
    · exact n2z hc.symm
    · exact zl2 hc) e) T8 sz8 fun c o c1 c2 c3 c4 e => up c o c1 (k5 c o c1 c2 c3 c4 e)
theorem zg_end {hh : A.handled = none} (D : Zap z TI TO i1 i2 l1 l2) (I1 : Inn prog w i1 l1 n1 Y1 t1) (I2 : Inn prog w i2 l2 n2 Y2 t2) {k : Nat} {a b : Value} {Q : Fin → Shared → Prop}
    (hz : IsZip s.heap z TI TO .none) (hTI : IsPair s.heap TI (.ref i1) (.ref i2)) (hTO : IsPair s.heap TO a b) (h1 : t1 k s.heap) (h2 : t2 k s.heap) (hk : k = min n1 n2)
    (hE : ∀ h' t' e, (∀ c o, c ≠ z → c ≠ TO → c ≠ i1 → c ≠ i2 → s.heap.get? c = some o → h'.get? c = some o) → (∃ o, h'.get? e = some o ∧ o.cls = .type "StopIteration") → E (.ref e) { s with heap := h', toks := t' }) :
    wpAny (model prog w) A (Builtin.«zip.__next__» ⟨[.ref z], []⟩) Q E s := by
  obtain ⟨⟨nTIz, nTOz, n1z, n2z⟩, ⟨nTOTI, n1TI, n2TI⟩, ⟨n1TO, n2TO⟩, n21⟩ := D.ne
  have zl1 : z ∉ l1 := fun q => D.a1 z q (by simp)
  have zl2 : z ∉ l2 := fun q => D.a2 z q (by simp)
  have Tl2 : TO ∉ l2 := fun q => D.a2 TO q (by simp)
  have i1l2 : i1 ∉ l2 := fun q => D.a2 i1 q (by simp)
  show wpAny _ _ (field (.ref z) 2 >>= _) _ _ _
  refine wpAny_bind (wpAny_field hz rfl (x := .bool false) rfl ?_)
  show wpAny _ _ (field (.ref z) 3 >>= _) _ _ _
  refine wpAny_bind (wpAny_field hz rfl (x := .ref TI) rfl ?_)
  refine wpAny_bind (wpAny_seqItems hTI rfl ?_)
  show wpAny _ _ (Builtin.SmallTypes.ownedTupleIsFree (.ref z) >>= _) _ _ _
  refine wpAny_bind ?_
  unfold Builtin.SmallTypes.ownedTupleIsFree
  refine wpAny_bind (wpAny_field hz rfl (x := .none) rfl (wpAny_pure ?_))
  simp only [if_true]
  refine wpAny_bind (wpAny_rule ?_)
  refine wpAny_bind (wpAny_field hz rfl (x := .ref TO) rfl ?_)
  refine wpAny_bind (wpAny_setField_rec hz (by simp) fun g1 z1 s1 => ?_)
  replace z1 : IsZip g1 z TI TO .ellipsis := z1
  refine wpAny_bind ?_
  simp only [List.zipIdx_cons, List.zipIdx_nil, List.forIn_cons, List.forIn_nil]
  refine wpAny_bind (wpAny_bind (wpAny_onRaise ?_))
  show wpAny _ _ (Builtin.SmallTypes.nextOf (.ref i1) >>= _) _ _ _
  by_cases hl : k < n1
  · refine wpAny_bind (I1.item _ k _ _ _ hh hl (I1.but h1 s1.extBut n1z.symm zl1) fun x g2 tk2 y1 u1 s2 => wpAny_pure ?_)
    have o2 : IsPair g2 TO a b := s2.extBut _ _ n1TO.symm (s1.extBut _ _ nTOz hTO)
    refine wpAny_bind (wpAny_seqItems o2 rfl ?_)
    refine wpAny_bind (wpAny_updateSeq_pair o2 fun g3 o3 s3 => ?_)
    refine wpAny_bind (wpAny_letGo (wpAny_pure ?_))
    refine wpAny_bind (wpAny_bind (wpAny_onRaise ?_))
    show wpAny _ _ (Builtin.SmallTypes.nextOf (.ref i2) >>= _) _ _ _
    have ek : k = n2 := by omega
    subst ek
    refine wpAny_bind (I2.done _ _ _ _ hh (I2.but (I2.but (I2.but h2 s1.extBut n2z.symm zl2) s2.extBut n21.symm i1l2) s3.extBut n2TO.symm Tl2) fun g4 e s4 he => ?_)
    obtain ⟨oe, hoe, hce⟩ := he
    have z4 : IsZip g4 z TI TO .ellipsis := s4 _ _ n2z.symm (s3.extBut _ _ nTOz.symm (s2.extBut _ _ n1z.symm z1))
    have nez : e ≠ z := fun q => by subst q; rw [z4] at hoe; cases hoe; simp at hce
    refine wpAny_setField_rec z4 (by simp) fun g5 _ s5 => hE g5 _ e (fun c o c1 c2 c3 c4 q => s5.extBut _ _ c1 (s4 _ _ c4 (s3.extBut _ _ c2 (s2.extBut _ _ c3 (s1.extBut _ _ c1 q))))) ⟨oe, s5.extBut _ _ nez hoe, hce⟩
  · have ek : k = n1 := by omega
    subst ek
    refine wpAny_bind (I1.done _ _ _ _ hh (I1.but h1 s1.extBut n1z.symm zl1) fun g2 e s2 he => ?_)
    obtain ⟨oe, hoe, hce⟩ := he
    have z2 : IsZip g2 z TI TO .ellipsis := s2 _ _ n1z.symm z1
    have nez : e ≠ z := fun q => by subst q; rw [z2] at hoe; cases hoe; simp at hce
    refine wpAny_setField_rec z2 (by simp) fun g3 _ s3 => hE g3 _ e (fun c o c1 _ c3 _ q => s3.extBut _ _ c1 (s2 _ _ c3 (s1.extBut _ _ c1 q))) ⟨oe, s3.extBut _ _ nez hoe, hce⟩
end
end
end G
set_option Elab.async false
set_option linter.all false
set_option maxRecDepth 100000
namespace G
open PySem PySem.Spec PyProof.Rows L2
open PySem.Sem (wp)
abbrev zG2 (h : Heap) (o1 o2 : Obj) : Heap := (h.push o1).push o2
abbrev zG3 (h : Heap) (o1 o2 : Obj) : Heap := (zG2 h o1 o2).push { cls := .type "tuple", data := .seq #[.ref h.objs.size, .ref (h.push o1).objs.size] }
abbrev zG4 (h : Heap) (o1 o2 : Obj) : Heap := (zG3 h o1 o2).push { cls := .type "tuple", data := .seq #[.none, .none] }
abbrev zG5 (h : Heap) (o1 o2 : Obj) : Heap := (zG4 h o1 o2).push { cls := .type "zip", data := .fields #[.none, .bool false, .bool false, .ref (zG2 h o1 o2).objs.size, .ref (zG3 h o1 o2).objs.size] }
/-- u gives the iterator o where P holds -/
def GivesIt (u : Value) (o : Obj) (P : Heap → Prop) : Prop := ∀ (prog : Program) (w : World) (A : Around) (s : Shared) (Q : Value → Shared → Prop) (E : Value → Shared → Prop), P s.heap → Q (.ref s.heap.objs.size) { s with heap := s.heap.push o } → wpAny (model prog w) A (pyIter u) Q E s
theorem meets_zipG (u1 u2 : Value) (o1 o2 : Obj) (P1 P2 : Heap → Prop) (k2 : ∀ h o, P2 h → P2 (h.push o)) (g1 : GivesIt u1 o1 P1) (g2 : GivesIt u2 o2 P2) :
    Meets (Builtin.«zip.__new__» ⟨[.type "zip", u1, u2], []⟩) (fun _ R s => P1 s.heap ∧ P2 s.heap ∧ R (.ok (.ret (.ref (zG4 s.heap o1 o2).objs.size))) { s with heap := zG5 s.heap o1 o2 }) :=
  .of_wp fun prog w A R s h => by
    obtain ⟨hp, g, d, tk, os⟩ := s
    obtain ⟨hl1, hl2, h⟩ := h
    have hsub := sub_zip
    have a1 := fun (A : Around) Q E => g1 prog w A ⟨hp, g, d, tk, os⟩ Q E hl1
    have a2 := fun (A : Around) Q E => g2 prog w A ⟨hp.push o1, g, d, tk, os⟩ Q E (k2 _ _ hl2)
    wp_walk using a1 _ _ _, a2 _ _ _
    exact ⟨_, rfl, h⟩
end G
set_option Elab.async false
set_option linter.all false
set_option maxRecDepth 100000
namespace G
open PySem PySem.Spec PyProof.Rows L2
section
variable {prog : Program} {w : World} {A : Around} {E : Value → Shared → Prop} {s : Shared}
theorem call_zipG {u1 u2 : Value} {o1 o2 : Obj} {P1 P2 : Heap → Prop} (k2 : ∀ h o, P2 h → P2 (h.push o)) (g1 : GivesIt u1 o1 P1) (g2 : GivesIt u2 o2 P2) (p1 : P1 s.heap) (p2 : P2 s.heap) (nf1 : o1.isFreed = false) (nf2 : o2.isFreed = false) {Q : Value → Shared → Prop}
    (h : ∀ h', IsZip h' (s.heap.objs.size + 4) (s.heap.objs.size + 2) (s.heap.objs.size + 3) .none → IsPair h' (s.heap.objs.size + 2) (.ref s.heap.objs.size) (.ref (s.heap.objs.size + 1)) →
      IsPair h' (s.heap.objs.size + 3) .none .none → h'.get? s.heap.objs.size = some o1 → h'.get? (s.heap.objs.size + 1) = some o2 → h'.objs.size = s.heap.objs.size + 5 →
      (∀ c o, s.heap.get? c = some o → h'.get? c = some o) → Q (.ref (s.heap.objs.size + 4)) { s with heap := h' }) : wpAny (model prog w) A (call (.type "zip") [u1, u2]) Q E s := by
  refine callType_new F.called_zip (by decide) (F.typeCall_zip_2 _ _) (F.newCall_zip_2 _ _) (fun obj => F.args_object_init_3 obj _ _) F.entry_zip_new (meets_zipG u1 u2 o1 o2 P1 P2 k2 g1 g2) ⟨p1, p2, ?_⟩
  have z1 : (s.heap.push o1).objs.size = s.heap.objs.size + 1 := Heap.size_push ..
  have z2 : (zG2 s.heap o1 o2).objs.size = s.heap.objs.size + 2 := by rw [Heap.size_push, z1]
  have z3 : (zG3 s.heap o1 o2).objs.size = s.heap.objs.size + 3 := by rw [Heap.size_push, z2]
  have z4 : (zG4 s.heap o1 o2).objs.size = s.heap.objs.size + 4 := by rw [Heap.size_push, z3]
  have z5 : (zG5 s.heap o1 o2).objs.size = s.heap.objs.size + 5 := by rw [Heap.size_push, z4]
  have e5 : (zG5 s.heap o1 o2).get? (zG4 s.heap o1 o2).objs.size = some _ := Heap.get?_push_size _ rfl
  have e4 : (zG5 s.heap o1 o2).get? (zG3 s.heap o1 o2).objs.size = some _ := Heap.get?_push_of_some _ (Heap.get?_push_size _ rfl)
  have e3 : (zG5 s.heap o1 o2).get? (zG2 s.heap o1 o2).objs.size = some _ := Heap.get?_push_of_some _ (Heap.get?_push_of_some _ (Heap.get?_push_size _ rfl))
  have e2 : (zG5 s.heap o1 o2).get? (s.heap.push o1).objs.size = some o2 := Heap.get?_push_of_some _ (Heap.get?_push_of_some _ (Heap.get?_push_of_some _ (Heap.get?_push_size _ nf2)))
  have e1 : (zG5 s.heap o1 o2).get? s.heap.objs.size = some o1 := Heap.get?_push_of_some _ (Heap.get?_push_of_some _ (Heap.get?_push_of_some _ (Heap.get?_push_of_some _ (Heap.get?_push_size _ nf1))))
  show _ ∧ _
  rw [z2, z3, z4] at e5
  rw [z1, z2] at e3
  rw [z3] at e4
  rw [z1] at e2
  rw [z4]
  exact ⟨⟨_, e5, rfl⟩, h _ e5 e3 e4 e1 e2 z5 fun c o x => Heap.get?_push_of_some _ (Heap.get?_push_of_some _ (Heap.get?_push_of_some _ (Heap.get?_push_of_some _ (Heap.get?_push_of_some _ x))))⟩
theorem next_zipG {n1 n2 : Nat} {Y1 Y2 : Nat → Value → Prop} {t1 t2 : Nat → Heap → Prop} {z TI TO i1 i2 : Addr} {l1 l2 : List Addr} (hh : A.handled = none) (D : Zap z TI TO i1 i2 l1 l2) (I1 : Inn prog w i1 l1 n1 Y1 t1) (I2 : Inn prog w i2 l2 n2 Y2 t2) {k : Nat} {a b : Value} {Q : Option Value → Shared → Prop}
    (hz : IsZip s.heap z TI TO .none) (hTI : IsPair s.heap TI (.ref i1) (.ref i2)) (hTO : IsPair s.heap TO a b) (h1 : t1 k s.heap) (h2 : t2 k s.heap) (k1 : k < n1) (k2 : k < n2)
    (hQ : ∀ h' t' x y, Y1 k x → Y2 k y → IsZip h' z TI TO (rawInt s.heap.objs.size) → IsPair h' TO x y → t1 (k + 1) h' → t2 (k + 1) h' → IsPair h' s.heap.objs.size x y → h'.objs.size = s.heap.objs.size + 1 →
      (∀ c o, c ≠ z → c ≠ TO → c ≠ i1 → c ≠ i2 → s.heap.get? c = some o → h'.get? c = some o) → Q (some (.ref s.heap.objs.size)) { s with heap := h', toks := t' }) : wpAny (model prog w) A (pyNext (.ref z)) Q E s := by
  have hT : s.TypeIs (.ref z) "zip" := ⟨_, hz, rfl⟩
  unfold pyNext
  exact wpAny_bind (wpAny_attempt (wpAny_callSpecial?_slot (name := Str.ofString "__next__") hT F.slot_zip_next (wpAny_call_entry F.slot_zip_next hT F.entry_zip_next
    (zg_item (A := A.in1) (hh := hh) D I1 I2 hz hTI hTO h1 h2 k1 k2 fun h' t' x y b1 b2 a1 a2 a3 a4 a5 a6 a7 => wpAny_pure (hQ h' t' x y b1 b2 a1 a2 a3 a4 a5 a6 a7)) (F.args_zip_next_1 _))))
theorem next_zipG_end {n1 n2 : Nat} {Y1 Y2 : Nat → Value → Prop} {t1 t2 : Nat → Heap → Prop} {z TI TO i1 i2 : Addr} {l1 l2 : List Addr} (hh : A.handled = none) (D : Zap z TI TO i1 i2 l1 l2) (I1 : Inn prog w i1 l1 n1 Y1 t1) (I2 : Inn prog w i2 l2 n2 Y2 t2) {k : Nat} {a b : Value} {Q : Option Value → Shared → Prop}
    (hz : IsZip s.heap z TI TO .none) (hTI : IsPair s.heap TI (.ref i1) (.ref i2)) (hTO : IsPair s.heap TO a b) (h1 : t1 k s.heap) (h2 : t2 k s.heap) (hk : k = min n1 n2)
    (hQ : ∀ h' t', (∀ c o, c ≠ z → c ≠ TO → c ≠ i1 → c ≠ i2 → s.heap.get? c = some o → h'.get? c = some o) → Q none { s with heap := h', toks := t' }) : wpAny (model prog w) A (pyNext (.ref z)) Q E s := by
  have hT : s.TypeIs (.ref z) "zip" := ⟨_, hz, rfl⟩
  unfold pyNext
  refine wpAny_bind (wpAny_attempt (wpAny_callSpecial?_slot (name := Str.ofString "__next__") hT F.slot_zip_next (wpAny_call_entry F.slot_zip_next hT F.entry_zip_next
    (zg_end (A := A.in1) (hh := hh) D I1 I2 hz hTI hTO h1 h2 hk fun h' t' e hk he => ?_) (F.args_zip_next_1 _))))
  obtain ⟨o, ho, hc⟩ := he
  refine wpAny_bind (wpAny_isInstance (T := "StopIteration") (b := true) ⟨o, ho, hc⟩ isSubtype_stop ?_)
  exact wpAny_pure (hQ _ _ hk)
end
/-- what a zip gives at turn i: a new pair of things that stand in the parts -/
def ItZ (n : Nat) (G : Hp → Prop) (V1 V2 : Nat → V → Prop) : It :=
  ⟨fun i H => i < n ∧ G H, fun i H v H' => ∃ T x y, v = .ref T ∧ H T = none ∧ H' = upd H T (.tup [x, y]) ∧ V1 i x ∧ V2 i y, fun i H => i = n ∧ G H⟩
/-- an inner iterator over what the abstract heap tells -/
structure Kd (P : Program) (w : World) (K : Frag) (it : Addr) (ls : List Addr) (n : Nat) (G : Hp → Prop) (V1 : Nat → V → Prop) (at1 : Nat → Heap → Prop) : Prop where
  obj : ∀ i h, at1 i h → ∃ o, h.get? it = some o ∧ ∀ v, o.data ≠ .cell v
  keep : ∀ i h h', at1 i h → (∀ o, h.get? it = some o → h'.get? it = some o) → at1 i h'
  inn : ∀ (X : Cx) (pins : List (Addr × Obj)) (σ : L2.St) (s : Shared) (H : Hp), X.prog = P → X.w = w → X.K = K → Inv X pins σ H s → G H →
    ∃ (Y : Nat → Value → Prop) (src : Heap → Prop), Inn P w it ls n Y (fun i h => at1 i h ∧ src h) ∧ src s.heap ∧ ∀ i v, Y i v → ∃ x, RelV x v ∧ V1 i x
theorem kd_list {P : Program} {w : World} {K : Frag} {it a : Addr} {xs : List V} : Kd P w K it [a] xs.length (fun H => SqL K H a xs) (fun i x => xs[i]? = some x) (fun i h => h.IsListIter it a i) where
  obj := fun i h ⟨o, e, _, d⟩ => ⟨o, e, fun v z => by rw [d] at z; cases z⟩
  keep := fun i h h' t k => t.at fun o e => k o e
  inn := fun X pins σ s H hP hw hK I q => by
    subst hP hw hK
    obtain ⟨us, rv, p, _⟩ := I.list q
    have l := rv.length
    refine ⟨_, _, by rw [l]; exact inn_list it a us.toArray, p.isList, fun i v e => ?_⟩
    have hi : i < xs.length := by
      have := (Array.getElem?_eq_some_iff.mp e).1
      simp at this
      omega
    obtain ⟨u, hu, ru⟩ := rv.get (List.getElem?_eq_getElem hi)
    have e' : us[i]? = some v := by simpa using e
    rw [hu] at e'
    cases e'
    exact ⟨_, ru, List.getElem?_eq_getElem hi⟩
theorem kd_tup {P : Program} {w : World} {K : Frag} {it a : Addr} {xs : List V} : Kd P w K it [a] xs.length (fun H => SqT K H a xs) (fun i x => xs[i]? = some x) (fun i h => h.IsTupleIter it a i) where
  obj := fun i h ⟨o, e, _, d⟩ => ⟨o, e, fun v z => by rw [d] at z; cases z⟩
  keep := fun i h h' t k => t.at fun o e => k o e
  inn := fun X pins σ s H hP hw hK I q => by
    subst hP hw hK
    obtain ⟨us, rv, p, _⟩ := I.tuple q
    have l := rv.length
    refine ⟨_, _, by rw [l]; exact inn_tup it a us.toArray, p, fun i v e => ?_⟩
    have hi : i < xs.length := by
      have := (Array.getElem?_eq_some_iff.mp e).1
      simp at this
      omega
    obtain ⟨u, hu, ru⟩ := rv.get (List.getElem?_eq_getElem hi)
    have e' : us[i]? = some v := by simpa using e
    rw [hu] at e'
    cases e'
    exact ⟨_, ru, List.getElem?_eq_getElem hi⟩
theorem kd_str {P : Program} {w : World} {K : Frag} {it : Addr} {x : Str} {t : Tok} {ty : String} (hty : ty = "str_ascii_iterator" ∨ ty = "str_iterator") : Kd P w K it [] x.cps.size (fun _ => True) (fun i v => ∃ c, x.cps[i]? = some c ∧ v = .str ⟨#[c]⟩) (fun i h => h.IsStrIter it ty x t i) where
  obj := fun i h ⟨o, e, _, d⟩ => ⟨o, e, fun v z => by rw [d] at z; cases z⟩
  keep := fun i h h' ⟨o, e, r⟩ k => ⟨o, k o e, r⟩
  inn := fun X pins σ s H hP hw hK I q => by
    have J := inn_str (prog := P) (w := w) it x t ty hty
    refine ⟨_, fun _ => True, ⟨fun i h q => J.obj i h q.1, fun i h h' q k => ⟨J.keep i h h' q.1 k, trivial⟩, fun A i s Q E hh hi q hQ => J.item A i s Q E hh hi q.1 fun v h' t' y t1 sb => hQ v h' t' y ⟨t1, trivial⟩ sb, fun A s Q E hh q hE => J.done A s Q E hh q.1 hE⟩, trivial, fun i v ⟨c, u, h1, h2⟩ => ⟨.str ⟨#[c]⟩, ⟨u, h2⟩, c, h1, rfl⟩⟩
theorem turn_zipG {P : Program} {w : World} {K : Frag} {elts : List Expr} {kk : Nat} {tpos : Pos} {n1 n2 : Nat} {V1 V2 : Nat → V → Prop} {t1 t2 : Nat → Heap → Prop} {z TI TO i1 i2 : Addr} {l1 l2 : List Addr} {G1 G2 : Hp → Prop} (D : Zap z TI TO i1 i2 l1 l2)
    (k1 : Kd P w K i1 l1 n1 G1 V1 t1) (k2 : Kd P w K i2 l2 n2 G2 V2 t2) : Turn P w K (.Tuple elts kk tpos) (ItZ (min n1 n2) (fun H => G1 H ∧ G2 H) V1 V2) [z, TI, TO, i1, i2] z
      (fun i h => IsZip h z TI TO .none ∧ IsPair h TI (.ref i1) (.ref i2) ∧ (∃ x y, IsPair h TO x y) ∧ t1 i h ∧ t2 i h) where
  mem := by simp
  obj := fun i h st c hc => by
    obtain ⟨hz, hTI, ⟨x, y, hTO⟩, h1, h2⟩ := st
    simp only [List.mem_cons, List.not_mem_nil, or_false] at hc
    rcases hc with rfl | rfl | rfl | rfl | rfl
    · exact ⟨_, hz, fun v q => nomatch q⟩
    · exact ⟨_, hTI, fun v q => nomatch q⟩
    · exact ⟨_, hTO, fun v q => nomatch q⟩
    · exact k1.obj i h h1
    · exact k2.obj i h h2
  keep := fun i h h' st k => by
    obtain ⟨hz, hTI, ⟨x, y, hTO⟩, h1, h2⟩ := st
    exact ⟨k z (by simp) _ hz, k TI (by simp) _ hTI, ⟨x, y, k TO (by simp) _ hTO⟩, k1.keep i h h' h1 (k i1 (by simp)), k2.keep i h h' h2 (k i2 (by simp))⟩
  item := by
    intro X hP hw hK hc i pins s σ H E I hf st hg
    obtain ⟨hz, hTI, ⟨x0, y0, hTO⟩, h1, h2⟩ := st
    obtain ⟨hi, g1, g2⟩ := hg
    obtain ⟨Y1, s1, J1, q1, r1⟩ := k1.inn X pins σ s H hP hw hK I g1
    obtain ⟨Y2, s2, J2, q2, r2⟩ := k2.inn X pins σ s H hP hw hK I g2
    subst hP hw hK
    have hzl : z < s.heap.objs.size := Heap.lt_size hz
    obtain ⟨⟨nTIz, nTOz, n1z, n2z⟩, ⟨nTOTI, n1TI, n2TI⟩, _, _⟩ := D.ne
    refine next_zipG (I.ok.hd hc) D J1 J2 hz hTI hTO ⟨h1, q1⟩ ⟨h2, q2⟩ (by omega) (by omega) fun h' tk u u2 y1 y2 z' TO' h1' h2' hT hsz hk => ?_
    refine ⟨_, rfl, wpAny_letOwnedTupleGo_zip (s := { s with heap := h', toks := tk }) z' fun h'' z'' sb => ?_⟩
    obtain ⟨x, ru, vx⟩ := r1 i u y1
    obtain ⟨y, ru2, vy⟩ := r2 i u2 y2
    have hT2 : h''.get? s.heap.objs.size = some { cls := .type "tuple", data := .seq #[u, u2] } := (sb.2 _ (Nat.ne_of_gt hzl)).trans hT
    have new : ObjOk X.prog X.w (upd H s.heap.objs.size (.tup [x, y])) h'' s.heap.objs.size (.tup [x, y]) := ⟨by show 2 ≤ sizeLine; decide, [u, u2], .cons ru (.cons ru2 .nil), ⟨_, hT2, rfl, _, rfl⟩⟩
    have I1 : Inv X pins σ (upd H s.heap.objs.size (.tup [x, y])) { s with heap := h'', toks := tk } :=
      I.turnedNew (t' := tk) (ch := [z, TI, TO, i1, i2]) (fun c o hb q => (sb.2 c (fun q' => hb (by simp [q']))).trans (hk c o (fun q' => hb (by simp [q'])) (fun q' => hb (by simp [q'])) (fun q' => hb (by simp [q'])) (fun q' => hb (by simp [q'])) q)) hf (Nat.le_refl _) new
    refine ⟨.ref s.heap.objs.size, _, I1, rfl, ⟨_, x, y, rfl, I.hok.fresh (Nat.le_refl _), rfl, vx, vy⟩, ⟨z'', ?_, ⟨u, u2, ?_⟩, ?_, ?_⟩, fun c hcm => ?_⟩
    · exact (sb.2 _ nTIz).trans (hk _ _ nTIz nTOTI.symm n1TI.symm n2TI.symm hTI)
    · exact (sb.2 _ nTOz).trans TO'
    · exact k1.keep _ _ _ h1'.1 fun o q => (sb.2 _ n1z).trans q
    · exact k2.keep _ _ _ h2'.1 fun o q => (sb.2 _ n2z).trans q
    · have hlt : c < s.heap.objs.size := by
        simp only [List.mem_cons, List.not_mem_nil, or_false] at hcm
        rcases hcm with rfl | rfl | rfl | rfl | rfl
        · exact hzl
        · exact Heap.lt_size hTI
        · exact Heap.lt_size hTO
        · obtain ⟨_, e1, _⟩ := k1.obj _ _ h1; exact Heap.lt_size e1
        · obtain ⟨_, e2, _⟩ := k2.obj _ _ h2; exact Heap.lt_size e2
      rw [upd_ne (Nat.ne_of_lt hlt)]
      exact (hf c hcm).1
  done := by
    intro X hP hw hK hc i pins s σ H E I hf st hg
    obtain ⟨hz, hTI, ⟨x0, y0, hTO⟩, h1, h2⟩ := st
    obtain ⟨hi, g1, g2⟩ := hg
    obtain ⟨Y1, s1, J1, q1, r1⟩ := k1.inn X pins σ s H hP hw hK I g1
    obtain ⟨Y2, s2, J2, q2, r2⟩ := k2.inn X pins σ s H hP hw hK I g2
    subst hP hw hK
    exact next_zipG_end (I.ok.hd hc) D J1 J2 hz hTI hTO ⟨h1, q1⟩ ⟨h2, q2⟩ hi fun h' tk hk => ⟨rfl, I.turnedL (t' := tk) (ch := [z, TI, TO, i1, i2]) (fun c o hb q => hk c o (fun q' => hb (by simp [q'])) (fun q' => hb (by simp [q'])) (fun q' => hb (by simp [q'])) (fun q' => hb (by simp [q'])) q) hf⟩
  self := fun A i s Q E st h => wpAny_pyIter_zip st.1 h
section
variable {X : Cx} {W : WX}
/-- a value that may stand in a zip: its walk's parts -/
structure Zp (X : Cx) (Z : Hp) (x : V) (ds : List D) : Prop where
  ex : ∀ (v : Value) (s : Shared) (pins : List (Addr × Obj)) (σ : L2.St) (H : Hp), RelV x v → Inv X pins σ H s → Same Z H → ∃ (o : Obj) (P : Heap → Prop) (G : Hp → Prop) (V1 : Nat → V → Prop) (ls : List Addr) (at1 : Addr → Nat → Heap → Prop), GivesIt v o P ∧ (∀ h o, P h → P (h.push o)) ∧ P s.heap ∧ o.isFreed = false ∧
    (∀ H', Same Z H' → G H') ∧ (∀ b ∈ ls, b < s.heap.objs.size) ∧ (∀ it, Kd X.prog X.w X.K it ls ds.length G V1 (at1 it)) ∧ (∀ it h, h.get? it = some o → at1 it 0 h) ∧
    ∀ i y, i < ds.length → V1 i y → ∃ d, ds[i]? = some d ∧ Dq X.K Z y d
theorem zp_of {Z : Hp} {x : V} {d : D} {ds : List D} (h : Dq X.K Z x d) (hi : iD d = some ds) : Zp X Z x ds := by
  refine ⟨fun v s pins σ H r I sz => ?_⟩
  cases h with
  | @lst a xs es q al =>
    cases hi
    cases r
    obtain ⟨us, rv, p, _⟩ := I.list (a := a) (xs := xs) (.inl (.inl (sz _ _ q)))
    refine ⟨_, fun h => h.IsList a us.toArray, fun H => SqL X.K H a xs, fun i x => xs[i]? = some x, [a], fun it i h => h.IsListIter it a i, fun _ _ _ _ _ _ => wpAny_pyIter_list, fun h o q => Heap.IsList.push q o, p.isList, rfl, fun H' s' => .inl (.inl (s' _ _ q)), fun b hb => ?_, fun it => ?_, fun it h e => ⟨_, e, rfl, rfl⟩, fun i y hi hy => ?_⟩
    · have e : b = a := by simpa using hb
      subst e
      exact p.lt
    · rw [← dpa_len al]
      exact kd_list
    · exact dpa_get' al hy
  | @tup a xs es q al =>
    cases hi
    cases r
    obtain ⟨us, rv, p, _⟩ := I.tuple (a := a) (xs := xs) (same_tup sz q)
    refine ⟨_, fun h => h.IsTuple a us.toArray, fun H => SqT X.K H a xs, fun i x => xs[i]? = some x, [a], fun it i h => h.IsTupleIter it a i, fun _ _ _ _ _ _ => wpAny_pyIter_tuple, fun h o ⟨o1, e, c⟩ => ⟨o1, Heap.get?_push_of_some _ e, c⟩, p, rfl, fun H' s' => same_tup s' q, fun b hb => ?_, fun it => ?_, fun it h e => ⟨_, e, rfl, rfl⟩, fun i y hi hy => ?_⟩
    · have e : b = a := by simpa using hb
      subst e
      exact p.lt
    · rw [← dpa_len al]
      exact kd_tup
    · exact dpa_get' al hy
  | str z =>
    cases hi
    obtain ⟨t, rfl⟩ := r
    have hl : (z.cps.toList.map fun c => PyData.str ⟨#[c]⟩).length = z.cps.size := by simp
    have fin : ∀ i y, i < (z.cps.toList.map fun c => PyData.str ⟨#[c]⟩).length → (∃ c, z.cps[i]? = some c ∧ y = V.str ⟨#[c]⟩) → ∃ d, (z.cps.toList.map fun c => PyData.str ⟨#[c]⟩)[i]? = some d ∧ Dq X.K Z y d := fun i y _ ⟨c, hc, e⟩ => by
      subst e
      refine ⟨.str ⟨#[c]⟩, ?_, .str _⟩
      rw [List.getElem?_map, Array.getElem?_toList, hc]
      rfl
    cases ha : z.cps.all (· < 128)
    · exact ⟨_, fun _ => True, fun _ => True, _, [], fun it i h => h.IsStrIter it "str_iterator" z t i, fun _ _ _ _ _ _ _ => wpAny_pyIter_wide ha, fun _ _ _ => trivial, trivial, rfl, fun _ _ => trivial, fun b hb => by simp at hb, fun it => by rw [hl]; exact kd_str (.inr rfl), fun it h e => ⟨_, e, rfl, rfl⟩, fin⟩
    · exact ⟨_, fun _ => True, fun _ => True, _, [], fun it i h => h.IsStrIter it "str_ascii_iterator" z t i, fun _ _ _ _ _ _ _ => wpAny_pyIter_ascii ha, fun _ _ _ => trivial, trivial, rfl, fun _ _ => trivial, fun b hb => by simp at hb, fun it => by rw [hl]; exact kd_str (.inl rfl), fun it h e => ⟨_, e, rfl, rfl⟩, fin⟩
  | non => cases hi
  | bl _ => cases hi
  | int _ => cases hi
def zipD : List D → List D → List D
  | a :: as, b :: bs => .tuple [a, b] :: zipD as bs
  | _, _ => []
theorem zipD_len : ∀ as bs : List D, (zipD as bs).length = min as.length bs.length
  | [], _ => by simp [zipD]
  | _ :: _, [] => by simp [zipD]
  | _ :: as, _ :: bs => by simp [zipD, zipD_len as bs]
theorem zipD_get : ∀ (as bs : List D) (i : Nat) (a b : D), as[i]? = some a → bs[i]? = some b → (zipD as bs)[i]? = some (.tuple [a, b])
  | [], _, _, _, _, h, _ => by simp at h
  | _ :: _, [], _, _, _, _, h => by simp at h
  | _ :: _, _ :: _, 0, _, _, h, h' => by cases h; cases h'; rfl
  | _ :: as, _ :: bs, i + 1, a, b, h, h' => zipD_get as bs i a b (by simpa using h) (by simpa using h')
def gZip : List D → Option (List D)
  | [a, b] => match iD a, iD b with
    | some as, some bs => some (zipD as bs)
    | _, _ => none
  | _ => none
theorem gZip_of {ds xs : List D} (h : gZip ds = some xs) : ∃ a b as bs, ds = [a, b] ∧ iD a = some as ∧ iD b = some bs ∧ xs = zipD as bs := by
  unfold gZip at h
  split at h
  · split at h
    · rename_i h1 h2
      cases h
      exact ⟨_, _, _, _, rfl, h1, h2, rfl⟩
    · cases h
  · cases h
theorem si_zip {a b : Expr} {q : XA} {p pos tpos : Pos} {elts : List Expr} {kk : Nat} (hg : Gl X "zip") (hm : X.mg "zip" = none) (ha : SA X W [a, b] q)
    (hs : starEach [a, b] X.env = (false, eval a X.env) :: starEach [b] X.env := by rfl) (hpl : (backTo pos (starEach [b] X.env)).any (·.1) = false := by rfl) : SI X W (.Tuple elts kk tpos) (.Call (.Name "zip" p) [a, b] [] pos) (iArgs gZip q) := by
  refine ⟨fun pins s σ H R I ⟨B, e, Z, R0, hq⟩ => ?_⟩
  have h1 : RA X.K X.mg W q σ H fun vs H1 => ∃ v w as bs, vs = [v, w] ∧ ∃ Z1, Same Z1 H1 ∧ Zp X Z1 v as ∧ Zp X Z1 w bs ∧ ∀ J, Wk X.K Z1 J (zipD as bs) → R J H1 := by
    refine rg_bind R0 hq fun v1 Z1 e1 d1 H1 s1 R1 D1 h1 => ?_
    obtain ⟨ds, e2, h2⟩ := pgi_lift h1
    obtain ⟨a', b', as, bs, rfl, ia, ib, rfl⟩ := gZip_of e2
    obtain ⟨v, w, rfl, da, db⟩ := dpa_2 D1
    exact ⟨v, w, as, bs, rfl, Z1, R1.sub, zp_of da ia, zp_of db ib, fun J w => h2 J Z1 H1 (Same.refl _) R1 w⟩
  refine Call_ (ld_blt I hg hm PyProof.Rows.boot_zip (PyProof.Rows.callWith_type1 (thn (ha.run pos pins s σ H _ I h1) fun us s1 ⟨vs, H1, I1, r1, q1⟩ => ?_) hs hpl))
  obtain ⟨v, w, as, bs, rfl, Z1, sz, zv, zw, fin⟩ := q1
  cases r1 with
  | cons ra rr =>
    cases rr with
    | cons rb rr =>
      cases rr
      obtain ⟨o1, P1, G1, V1, l1, at1, g1, k1, p1, nf1, gg1, lt1, kd1, i01, y1⟩ := zv.ex _ s1 pins σ H1 ra I1 sz
      obtain ⟨o2, P2, G2, V2, l2, at2, g2, k2, p2, nf2, gg2, lt2, kd2, i02, y2⟩ := zw.ex _ s1 pins σ H1 rb I1 sz
      refine call_zipG k2 g1 g2 p1 p2 nf1 nf2 fun h' hz hTI hTO h1 h2 hsz hk => wpAny_pyIter_zip hz ?_
      have I2 : Inv X pins σ H1 { s1 with heap := h' } := I1.kept (t' := s1.toks) hk
      have ap : Zap (s1.heap.objs.size + 4) (s1.heap.objs.size + 2) (s1.heap.objs.size + 3) s1.heap.objs.size (s1.heap.objs.size + 1) l1 l2 := by
        refine ⟨?_, fun b hb hm => ?_, fun b hb hm => ?_⟩
        · simp
        · have lt := lt1 b hb
          simp only [List.mem_cons, List.not_mem_nil, or_false] at hm
          rcases hm with rfl | rfl | rfl | rfl | rfl <;> first | exact Nat.not_lt.mpr (Nat.le_add_right _ _) lt | exact Nat.lt_irrefl _ lt
        · have lt := lt2 b hb
          simp only [List.mem_cons, List.not_mem_nil, or_false] at hm
          rcases hm with rfl | rfl | rfl | rfl | rfl <;> first | exact Nat.not_lt.mpr (Nat.le_add_right _ _) lt | exact Nat.lt_irrefl _ lt
      refine ⟨s1.heap.objs.size + 4, [s1.heap.objs.size + 4, s1.heap.objs.size + 2, s1.heap.objs.size + 3, s1.heap.objs.size, s1.heap.objs.size + 1], _, _, H1, rfl, I2, turn_zipG ap (kd1 _) (kd2 _), ⟨hz, hTI, ⟨_, _, hTO⟩, i01 _ _ h1, i02 _ _ h2⟩, fun c hcm => ?_, fin _ ?_⟩
      · simp only [List.mem_cons, List.not_mem_nil, or_false] at hcm
        have hle : s1.heap.objs.size ≤ c := by
          rcases hcm with rfl | rfl | rfl | rfl | rfl <;> first | exact Nat.le_add_right _ _ | exact Nat.le_refl _
        exact I1.fpOk hle (I1.hok.fresh hle)
      · refine ⟨fun i H hi s => ⟨by rw [zipD_len] at hi; exact hi, gg1 H s, gg2 H s⟩, fun H s => ⟨zipD_len as bs, gg1 H s, gg2 H s⟩, fun i H x H' B e σ Z2 hi s R hy => ?_⟩
        obtain ⟨T, x, y, rfl, nT, rfl, vx, vy⟩ := hy
        rw [zipD_len] at hi
        obtain ⟨d1, e1, D1⟩ := y1 i x (by omega) vx
        obtain ⟨d2, e2, D2⟩ := y2 i y (by omega) vy
        obtain ⟨R2, s2⟩ := R.new (o := .tup [x, y]) nT
        exact ⟨_, _, s2, R2, zipD_get as bs i d1 d2 e1 e2, .tup (.inl (.inl upd_same)) (.cons (dp_mono (s.trans s2) D1) (.cons (dp_mono (s.trans s2) D2) .nil))⟩
end
end G
set_option Elab.async false
set_option linter.all false
set_option maxRecDepth 100000
namespace G
open PySem PySem.Spec PyProof.Rows L2
section
variable {X : Cx} {W : WX} {pos : Pos}
theorem okC_or {K : Frag} {r r' : List V → Hp → VK → Prop} {g g' : List D → Option D} (h : OkC K r g) (h' : OkC K r' g') : OkC K (fun xs H Q => r xs H Q ∨ r' xs H Q) (fun a => (g a).orElse fun _ => g' a) := by
  intro Z H xs ds d Q s D1 e k
  dsimp only at e
  cases hg : g ds with
  | some a =>
    rw [hg] at e
    cases e
    exact .inl (h Z H xs ds _ Q s D1 hg k)
  | none =>
    rw [hg] at e
    exact .inr (h' Z H xs ds d Q s D1 e k)
/-! ### len -/
def dLen : List D → Option D
  | [.list xs] => some (.int xs.length)
  | [.tuple xs] => some (.int xs.length)
  | [.str z] => if z.length ≤ sizeLine then some (.int z.length) else none
  | _ => none
theorem ok_len {K : Frag} : OkC K (fun xs H Q => (∃ p ys, xs = [.ref p] ∧ (SqL K H p ys ∨ SqT K H p ys) ∧ Q (.int ys.length) H) ∨ (∃ z, xs = [.str z] ∧ z.length ≤ sizeLine ∧ Q (.int z.length) H)) dLen := by
  intro Z H xs ds d Q s D1 e k
  unfold dLen at e
  split at e
  · cases e
    obtain ⟨v, rfl, hv⟩ := dpa_1 D1
    obtain ⟨a, ws, rfl, h1, h2⟩ := dp_list hv
    exact .inl ⟨a, ws, rfl, .inl (.inl (.inl (s _ _ h1))), k _ Z H (Nw.refl s) (by rw [dpa_len h2]; exact .int _)⟩
  · cases e
    obtain ⟨v, rfl, hv⟩ := dpa_1 D1
    obtain ⟨a, ws, rfl, h1, h2⟩ := dp_tuple hv
    exact .inl ⟨a, ws, rfl, .inr (same_tup s h1), k _ Z H (Nw.refl s) (by rw [dpa_len h2]; exact .int _)⟩
  · split at e
    · cases e
      obtain ⟨v, rfl, hv⟩ := dpa_1 D1
      cases dp_str hv
      exact .inr ⟨_, rfl, by assumption, k _ Z H (Nw.refl s) (.int _)⟩
    · cases e
  · cases e
theorem se_len {a : Expr} {q : XA} {p : Pos} (hg : Gl X "len") (hm : X.mg "len" = none) (ha : SA X W [a] q) (he : starEach [a] X.env = (false, eval a X.env) :: starEach [] X.env := by rfl) (hpl : (backTo pos (starEach [] X.env)).any (·.1) = false := by rfl) : SE X W (.Call (.Name "len" p) [a] [] pos) (eCall dLen q) :=
  se_tCB ok_len (pe_callB (.or call_len_seq call_len_str) hg hm PySem.boot_len ha (by decide) (by decide) he hpl)
/-- len(xs), xs a name's own list -/
def eLenOwn (i : Nat) : XE := fun e => match e[i]? with
  | some (.own _ (.lst xs)) => .ok (.int xs.length) e
  | _ => .bad
theorem se_lenOwn {i : Nat} {x : Str} {px p : Pos} (hg : Gl X "len") (hm : X.mg "len" = none) (ha : PE X (.Name x px) (tVar i)) (he : starEach [.Name x px] X.env = (false, eval (.Name x px) X.env) :: starEach [] X.env := by rfl) (hpl : (backTo pos (starEach [] X.env)).any (·.1) = false := by rfl) : SE X W (.Call (.Name "len" p) [.Name x px] [] pos) (eLenOwn i) := by
  refine PE.imp (pe_callB call_len_seq hg hm PySem.boot_len (pa_cons ha pa_nil he) (by decide) (by decide) he hpl) fun σ H Q ⟨B, e, Z, R0, hq⟩ => ?_
  unfold eLenOwn at hq
  split at hq
  · rename_i t xs he
    obtain ⟨a, u, h1, h2, h3, ⟨vs, rfl, h4⟩, _⟩ := R0.own he
    refine ⟨_, h1, a, vs, rfl, .inl (.inl (.inl h2)), ?_⟩
    rw [dpa_len h4]
    exact hq _ Z H (Same.refl _) R0 (.int _)
  · exact hq.elim
/-! ### tuple(..), list(..) -/
def dTuple : List D → Option D
  | [.list xs] => some (.tuple xs)
  | [.tuple xs] => some (.tuple xs)
  | _ => none
theorem ok_tuple {K : Frag} : OkC K (fun xs H Q => ∃ p ys, xs = [.ref p] ∧ ((SqL K H p ys ∧ ∀ l, H l = none → Q (.ref l) (upd H l (.tup ys))) ∨ (SqT K H p ys ∧ Q (.ref p) H))) dTuple := by
  intro Z H xs ds d Q s D1 e k
  unfold dTuple at e
  split at e
  · cases e
    obtain ⟨v, rfl, hv⟩ := dpa_1 D1
    obtain ⟨a, ws, rfl, h1, h2⟩ := dp_list hv
    refine ⟨a, ws, rfl, .inl ⟨.inl (.inl (s _ _ h1)), fun l hl => ?_⟩⟩
    have n := Nw.new (o := .tup ws) s hl
    exact k _ _ _ n (.tup (.inl (.inl upd_same)) (dpa_mono n.z h2))
  · cases e
    obtain ⟨v, rfl, hv⟩ := dpa_1 D1
    obtain ⟨a, ws, rfl, h1, h2⟩ := dp_tuple hv
    exact ⟨a, ws, rfl, .inr ⟨same_tup s h1, k _ Z H (Nw.refl s) (.tup h1 h2)⟩⟩
  · cases e
theorem se_tuple {a : Expr} {q : XA} {p : Pos} (hg : Gl X "tuple") (hm : X.mg "tuple" = none) (ha : SA X W [a] q) (he : starEach [a] X.env = (false, eval a X.env) :: starEach [] X.env := by rfl) (hpl : (backTo pos (starEach [] X.env)).any (·.1) = false := by rfl) : SE X W (.Call (.Name "tuple" p) [a] [] pos) (eCall dTuple q) :=
  se_tCB ok_tuple (pe_callTy call_tuple_of hg hm (by decide +kernel) ha (by decide) (by decide) he hpl)
def lD : List D → Option (List D)
  | [.list xs] => some xs
  | [.tuple xs] => some xs
  | _ => none
def nCall (g : List D → Option (List D)) (q : XA) : XI := fun e => (q e).bind fun ds e1 => R.lift (g ds) e1
theorem pgf_lift {B : Bs} {σ : L2.St} {Z : Hp} {e : En} {o : Option (List D)} {Q : VK} (h : PgF X.K X.mg W B σ Z (R.lift o e) Q) : ∃ ds, o = some ds ∧ PgF X.K X.mg W B σ Z (R.ok ds e) Q := by
  cases o with
  | none => exact h.elim
  | some ds => exact ⟨ds, rfl, h⟩
theorem sn_list {a : Expr} {q : XA} {p : Pos} (hg : Gl X "list") (hm : X.mg "list" = none) (ha : SA X W [a] q) (he : starEach [a] X.env = (false, eval a X.env) :: starEach [] X.env := by rfl) (hpl : (backTo pos (starEach [] X.env)).any (·.1) = false := by rfl) : SN X W (.Call (.Name "list" p) [a] [] pos) (nCall lD q) := by
  refine PE.imp (pe_callTy call_list_of hg hm (by decide +kernel) ha (by decide) (by decide) he hpl) fun σ H Q ⟨B, e, Z, R0, hq⟩ => ?_
  refine rn_bind R0 hq fun v1 Z1 e1 d1 H1 s1 R1 D1 h1 => ?_
  obtain ⟨ds, e2, h2⟩ := pgf_lift h1
  unfold lD at e2
  split at e2
  · cases e2
    obtain ⟨v, rfl, hv⟩ := dpa_1 D1
    obtain ⟨a, ws, rfl, g1, g2⟩ := dp_list hv
    exact ⟨a, ws, rfl, .inl (.inl (.inl (R1.sub _ _ g1))), pgf_new R1 g2 h2⟩
  · cases e2
    obtain ⟨v, rfl, hv⟩ := dpa_1 D1
    obtain ⟨a, ws, rfl, g1, g2⟩ := dp_tuple hv
    exact ⟨a, ws, rfl, .inr (same_tup R1.sub g1), pgf_new R1 g2 h2⟩
  · cases e2
/-- list(range(n)) -/
def nRange1 (p : XE) : XI := fun e => (p e).bind fun d e1 => match d with
  | .int n => if 0 ≤ n ∧ n ≤ 16777216 then .ok (rgD 0 n) e1 else .bad
  | _ => .bad
theorem dpa_rg {K : Frag} {Z : Hp} {a b : Int} : DqAll K Z (rgV a b) (rgD a b) := by
  unfold rgV rgD
  induction List.range (b - a).toNat with
  | nil => exact .nil
  | cons x xs ih => exact .cons (.int _) ih
theorem sn_listRange {a : Expr} {q : XE} {p p2 pos2 : Pos} (hc : X.calm = true) (hg : Gl X "list") (hm : X.mg "list" = none) (hg2 : Gl X "range") (hm2 : X.mg "range" = none) (ha : SE X W a q)
    (na : starEach [a] X.env = (false, eval a X.env) :: starEach [] X.env := by rfl) (na2 : starEach [.Call (.Name "range" p2) [a] [] pos2] X.env = (false, eval (.Call (.Name "range" p2) [a] [] pos2) X.env) :: starEach [] X.env := by rfl) :
    SN X W (.Call (.Name "list" p) [.Call (.Name "range" p2) [a] [] pos2] [] pos) (nRange1 q) := by
  refine PE.imp (pe_listRg hc hg hm (prg_1 hg2 hm2 ha na) na2) fun σ H Q ⟨B, e, Z, R0, hq⟩ => ?_
  refine rn_bind R0 hq fun v1 Z1 e1 d1 H1 s1 R1 D1 h1 => ?_
  cases D1 with
  | int n =>
    simp only at h1
    split at h1
    · rename_i hn
      exact ⟨n, rfl, RgOk.of_le (by omega) hn.2 (by omega) hn.1, pgf_new R1 dpa_rg h1⟩
    · exact h1.elim
  | non => exact h1.elim
  | bl _ => exact h1.elim
  | str _ => exact h1.elim
  | lst _ _ => exact h1.elim
  | tup _ _ => exact h1.elim
/-! ### sum -/
def intsD : List D → Option (List Int)
  | [] => some []
  | .int i :: r => (intsD r).map (i :: ·)
  | _ => none
theorem dpa_ints {K : Frag} {Z : Hp} : ∀ {vs : List V} {ds : List D} {ns : List Int}, DqAll K Z vs ds → intsD ds = some ns → vs = ns.map V.int
  | _, _, _, .nil, h => by cases h; rfl
  | _, _, ns, .cons a b, h => by
    cases a with
    | int i =>
      unfold intsD at h
      cases hr : intsD _ with
      | none => rw [hr] at h; cases h
      | some r =>
        rw [hr] at h
        cases h
        rw [dpa_ints b hr]
        rfl
    | non => cases h
    | bl _ => cases h
    | str _ => cases h
    | lst _ _ => cases h
    | tup _ _ => cases h
def dSum : List D → Option D
  | [.list xs] => (intsD xs).map fun ns => .int ns.sum
  | _ => none
theorem ok_sum {K : Frag} : OkC K (rSum K) dSum := by
  intro Z H xs ds d Q s D1 e k
  unfold dSum at e
  split at e
  · rename_i ys
    obtain ⟨v, rfl, hv⟩ := dpa_1 D1
    obtain ⟨a, ws, rfl, h1, h2⟩ := dp_list hv
    cases hi : intsD ys with
    | none => rw [hi] at e; cases e
    | some ns =>
      rw [hi] at e
      cases e
      refine ⟨a, ns, rfl, .inl (.inl ?_), k _ Z H (Nw.refl s) (.int _)⟩
      rw [← dpa_ints h2 hi]
      exact s _ _ h1
  · cases e
theorem se_sum {a : Expr} {q : XA} {p : Pos} (hc : X.calm = true) (hg : Gl X "sum") (hm : X.mg "sum" = none) (ha : SA X W [a] q) (he : starEach [a] X.env = (false, eval a X.env) :: starEach [] X.env := by rfl) (hpl : (backTo pos (starEach [] X.env)).any (·.1) = false := by rfl) : SE X W (.Call (.Name "sum" p) [a] [] pos) (eCall dSum q) :=
  se_tCB ok_sum (pe_callB (cr_sum hc) hg hm (by decide +kernel) ha (by decide) (by decide) he hpl)
/-! ### isinstance of data -/
def tyN : D → String
  | .none => "NoneType"
  | .bool _ => "bool"
  | .int _ => "int"
  | .str _ => "str"
  | .list _ => "list"
  | .tuple _ => "tuple"
  | .dict _ => "dict"
theorem dq_ty {K : Frag} {Z H : Hp} {v : V} {d : D} (s : Same Z H) (h : Dq K Z v d) : TyX K H v (.type (tyN d)) := by
  cases h with
  | non => exact .base .non
  | bl b => exact .base (.bl b)
  | int i => exact .base (.int i)
  | str x => exact .base (.str x)
  | lst q a => exact .base (.lst (s _ _ q))
  | tup q a =>
    rcases q with q | ⟨o, its, n, h1, h2, _⟩
    · rcases q with q | ⟨o, q⟩
      · exact .base (.tup (s _ _ q))
      · exact .fTuple (s _ _ q)
    · exact .kTuple h1 h2
def eIsi (T : String) (p : XE) : XE := fun e => (p e).bind fun d e1 => R.lift ((kitB (tyN d) T).map .bool) e1
theorem se_isi {a : Expr} {T : String} {Ts : Str} {p : XE} {p1 p2 : Pos} (hg : Gl X "isinstance") (hm : X.mg "isinstance" = none) (ha : SE X W a p) (hT : PE X (.Name Ts p2) (tC (.ty T)))
    (he : starEach [a, .Name Ts p2] X.env = (false, eval a X.env) :: starEach [.Name Ts p2] X.env := by rfl) (he2 : starEach [.Name Ts p2] X.env = (false, eval (.Name Ts p2) X.env) :: starEach [] X.env := by rfl) (hpl : (backTo pos (starEach [.Name Ts p2] X.env)).any (·.1) = false := by rfl) :
    SE X W (.Call (.Name "isinstance" p1) [a, .Name Ts p2] [] pos) (eIsi T p) := by
  refine PE.imp (pe_callB call_isi hg hm (by decide +kernel) (pa_cons ha (pa_cons hT pa_nil he2) he) (by decide) (by decide) he hpl) fun σ H Q ⟨B, e, Z, R0, hq⟩ => ?_
  refine rg_bind R0 hq fun v1 Z1 e1 d1 H1 s1 R1 D1 h1 => ?_
  obtain ⟨d, ed, k⟩ := pg_lift R1 h1
  cases hk : kitB (tyN d1) T with
  | none => rw [hk] at ed; cases ed
  | some b =>
    rw [hk] at ed
    cases ed
    exact ⟨v1, _, _, _, b, rfl, .ty T, dq_ty R1.sub D1, kit_ty hk, k _ Z1 H1 (Nw.refl R1.sub) (.bl b)⟩
/-! ### texts -/
def strsD : List D → Option (List Str)
  | [] => some []
  | .str i :: r => (strsD r).map (i :: ·)
  | _ => none
theorem dpa_strs {K : Frag} {Z : Hp} : ∀ {vs : List V} {ds : List D} {ns : List Str}, DqAll K Z vs ds → strsD ds = some ns → vs = ns.map V.str
  | _, _, _, .nil, h => by cases h; rfl
  | _, _, ns, .cons a b, h => by
    cases a with
    | str i =>
      unfold strsD at h
      cases hr : strsD _ with
      | none => rw [hr] at h; cases h
      | some r =>
        rw [hr] at h
        cases h
        rw [dpa_strs b hr]
        rfl
    | non => cases h
    | bl _ => cases h
    | int _ => cases h
    | lst _ _ => cases h
    | tup _ _ => cases h
def dJoin : D → List D → Option D
  | .str a, [.list xs] => match strsD xs with
    | some ys => if (ys.map (·.length)).sum + ys.length * a.length ≤ 16777216 then some (.str (Txt.join a ys)) else none
    | none => none
  | _, _ => none
theorem ok_join {K : Frag} : OkM K (fun x xs H Q => ∃ a p, ∃ ys : List Str, x = .str a ∧ xs = [.ref p] ∧ (SqL K H p (ys.map V.str) ∨ SqT K H p (ys.map V.str)) ∧ (ys.map (·.length)).sum + ys.length * a.length ≤ 16777216 ∧ Q (.str (Txt.join a ys)) H) dJoin := by
  intro Z H x xs c ds d Q s D1 D2 e k
  unfold dJoin at e
  split at e
  · rename_i a ys
    cases hs : strsD ys with
    | none => rw [hs] at e; cases e
    | some zs =>
      rw [hs] at e
      simp only at e
      split at e
      · cases e
        cases dp_str D1
        obtain ⟨v, rfl, hv⟩ := dpa_1 D2
        obtain ⟨b, ws, rfl, h1, h2⟩ := dp_list hv
        exact ⟨a, b, zs, rfl, rfl, .inl (.inl (.inl (by rw [← dpa_strs h2 hs]; exact s _ _ h1))), by assumption, k _ Z H (Nw.refl s) (.str _)⟩
      · cases e
  · cases e
section
variable {o a : Expr} {ap : Pos} {p : XE} {q : XA}
theorem se_join (ho : SE X W o p) (ha : SA X W [a] q) (hbase : attributeBase o "join" X.env (eval o X.env) = eval o X.env := by rfl)
    (hfew : ((backTo pos (starEach [a] X.env)).all (fun x => !x.1) && (backToKw pos (keywordEach [] X.env)).all (fun x => x.1.isSome)
      && decide ([a].length + ([] : List Keyword).length + (if ([] : List Keyword).isEmpty then 0 else 1) < 30)) = true := by rfl)
    (hline : (ap.endLine == pos.line) = true := by rfl) (hs : starEach [a] X.env = (false, eval a X.env) :: starEach [] X.env := by rfl) (hplain : (backTo pos (starEach [] X.env)).any (·.1) = false := by rfl) :
    SE X W (.Call (.Attribute o "join" ap) [a] [] pos) (eMeth isStr dJoin p q) :=
  se_tBM tyD_str ok_join (pe_bm PySem.F.plainAttrs_str PySem.F.slot_str_join PySem.F.type_str_join mt_join ho ha hbase hfew hline hs hplain)
def dCount : D → List D → Option D
  | .str a, [.str b] => some (.int (Txt.count a b))
  | _, _ => none
theorem ok_count {K : Frag} : OkM K (fun x xs H Q => ∃ a b, x = .str a ∧ xs = [.str b] ∧ Q (.int (Txt.count a b)) H) dCount := by
  intro Z H x xs c ds d Q s D1 D2 e k
  unfold dCount at e
  split at e
  · cases e
    cases dp_str D1
    obtain ⟨v, rfl, hv⟩ := dpa_1 D2
    cases dp_str hv
    exact ⟨_, _, rfl, rfl, k _ Z H (Nw.refl s) (.int _)⟩
  · cases e
theorem se_count (ho : SE X W o p) (ha : SA X W [a] q) (hbase : attributeBase o "count" X.env (eval o X.env) = eval o X.env := by rfl)
    (hfew : ((backTo pos (starEach [a] X.env)).all (fun x => !x.1) && (backToKw pos (keywordEach [] X.env)).all (fun x => x.1.isSome)
      && decide ([a].length + ([] : List Keyword).length + (if ([] : List Keyword).isEmpty then 0 else 1) < 30)) = true := by rfl)
    (hline : (ap.endLine == pos.line) = true := by rfl) (hs : starEach [a] X.env = (false, eval a X.env) :: starEach [] X.env := by rfl) (hplain : (backTo pos (starEach [] X.env)).any (·.1) = false := by rfl) :
    SE X W (.Call (.Attribute o "count" ap) [a] [] pos) (eMeth isStr dCount p q) :=
  se_tBM tyD_str ok_count (pe_bm PySem.F.plainAttrs_str PySem.F.slot_str_count PySem.F.type_str_count mt_count ho ha hbase hfew hline hs hplain)
end
/-! ### slices -/
def cutD (xs : List D) (lo hi : Option Int) : List D := (xs.drop (HT.sIx xs.length 0 lo)).take (HT.sIx xs.length xs.length hi - HT.sIx xs.length 0 lo)
theorem dpa_cut {K : Frag} {Z : Hp} {vs : List V} {ds : List D} {lo hi : Option Int} (h : DqAll K Z vs ds) : DqAll K Z (cutV vs lo hi) (cutD ds lo hi) := by
  unfold cutV cutD
  rw [dpa_len h]
  exact dpa_take _ (dpa_drop _ h)
/-- xs[lo:hi] of the list that came from outside -/
def nSlScr (i : Nat) (l h : XO) : XI := fun e => match e[i]? with
  | some (.scr xs) => (l e).bind fun lo e1 => (h e1).bind fun hi e2 => .ok (cutD xs lo hi) e2
  | _ => .bad
theorem sn_slScr {i : Nat} {x : Str} {px p2 : Pos} {lo hi : Option Expr} {l u : XO} (ha : PE X (.Name x px) (tVar i)) (hl : SO X W lo l) (hu : SO X W hi u) : SN X W (.Subscript (.Name x px) (.Slice lo hi none p2) pos) (nSlScr i l u) := by
  refine PE.imp (pe_slice sl_list ha hl hu) fun σ H Q ⟨B, e, Z, R0, hq⟩ => ?_
  unfold nSlScr at hq
  split at hq
  · rename_i ds he
    obtain ⟨a, vs, h1, h2, h3⟩ := R0.scr he
    refine ⟨_, h1, ?_⟩
    refine rn_bind R0 hq fun v1 Z1 e1 d1 H1 s1 R1 D1 g1 => ?_
    refine rn_bind R1 g1 fun v2 Z2 e2 d2 H2 s2 R2 D2 g2 => ?_
    subst D1
    subst D2
    exact ⟨a, vs, rfl, Same.seq ((s1.trans s2).trans R2.sub) h2, pgf_new R2 (dpa_cut (dpa_mono (s1.trans s2) h3)) g2⟩
  · exact hq.elim
end
end G
set_option Elab.async false
set_option linter.all false
set_option maxRecDepth 100000
/-! how the functions over data run, for simp -/
namespace G
open PySem PySem.Spec PyProof.Rows L2
@[simp] theorem dAdd_int (i j : Int) : dAdd (.int i) (.int j) = some (.int (i + j)) := rfl
@[simp] theorem dAdd_str (a b : Str) : dAdd (.str a) (.str b) = if a.length + b.length ≤ sizeLine then some (.str (a ++ b)) else none := by
  unfold dAdd dI dAddS dAddL dAddT; by_cases h : a.length + b.length ≤ sizeLine <;> simp [h]
@[simp] theorem dAdd_list (a b : List D) : dAdd (.list a) (.list b) = if a.length + b.length ≤ sizeLine then some (.list (a ++ b)) else none := by
  unfold dAdd dI dAddS dAddL dAddT; by_cases h : a.length + b.length ≤ sizeLine <;> simp [h]
@[simp] theorem dAdd_tuple (a b : List D) : dAdd (.tuple a) (.tuple b) = if a ≠ [] ∧ a.length + b.length ≤ sizeLine then some (.tuple (a ++ b)) else none := rfl
@[simp] theorem dSub_int (i j : Int) : dSub (.int i) (.int j) = some (.int (i - j)) := rfl
@[simp] theorem dMul_int (i j : Int) : dMul (.int i) (.int j) = if CMul i j then some (.int (i * j)) else none := by
  unfold dMul dMulI dI dMulL; by_cases h : CMul i j <;> simp [h]
@[simp] theorem dMul_list (xs : List D) (k : Int) : dMul (.list xs) (.int k) = if (-(2 ^ 63) ≤ k ∧ k < 2 ^ 63) ∧ xs.length * k.toNat ≤ sizeLine then some (.list (List.replicate k.toNat xs).flatten) else none := by
  unfold dMul dMulI dI dMulL; simp
@[simp] theorem dMod_int (i j : Int) : dMod (.int i) (.int j) = if 0 < j then some (.int (i % j)) else none := rfl
@[simp] theorem dDiv_int (i j : Int) : dDiv (.int i) (.int j) = if CDiv i j then some (.int (i / j)) else none := rfl
@[simp] theorem dPow_int (i j : Int) : dPow (.int i) (.int j) = if CPow i j then some (.int (i ^ j.toNat)) else none := rfl
@[simp] theorem dShl_int (i j : Int) : dShl (.int i) (.int j) = if CPow i j then some (.int (i * 2 ^ j.toNat)) else none := rfl
@[simp] theorem dShr_int (i j : Int) : dShr (.int i) (.int j) = if 0 ≤ j then some (.int (i / 2 ^ j.toNat)) else none := rfl
@[simp] theorem dAnd_int (i j : Int) : dAnd (.int i) (.int j) = some (.int (Builtin.bitAnd i j)) := rfl
@[simp] theorem dLt_int (i j : Int) : dLt (.int i) (.int j) = some (.bool (decide (i < j))) := rfl
@[simp] theorem dLe_int (i j : Int) : dLe (.int i) (.int j) = some (.bool (decide (i ≤ j))) := rfl
@[simp] theorem dGt_int (i j : Int) : dGt (.int i) (.int j) = some (.bool (decide (j < i))) := rfl
@[simp] theorem dGe_int (i j : Int) : dGe (.int i) (.int j) = some (.bool (decide (j ≤ i))) := rfl
@[simp] theorem dIx_list (xs : List D) (i : Int) : dIx (.list xs) (.int i) = atI xs i := rfl
@[simp] theorem dIx_tuple (xs : List D) (i : Int) : dIx (.tuple xs) (.int i) = atI xs i := rfl
@[simp] theorem dIx_str (z : Str) (i : Int) : dIx (.str z) (.int i) = if z.length ≤ sizeLine then (atI z.cps.toList i).map fun c => .str ⟨#[c]⟩ else none := rfl
@[simp] theorem dLen_list (xs : List D) : dLen [.list xs] = some (.int xs.length) := rfl
@[simp] theorem dLen_tuple (xs : List D) : dLen [.tuple xs] = some (.int xs.length) := rfl
@[simp] theorem dLen_str (z : Str) : dLen [.str z] = if z.length ≤ sizeLine then some (.int z.length) else none := rfl
@[simp] theorem dTuple_list (xs : List D) : dTuple [.list xs] = some (.tuple xs) := rfl
@[simp] theorem dTuple_tuple (xs : List D) : dTuple [.tuple xs] = some (.tuple xs) := rfl
@[simp] theorem lD_list (xs : List D) : lD [.list xs] = some xs := rfl
@[simp] theorem lD_tuple (xs : List D) : lD [.tuple xs] = some xs := rfl
@[simp] theorem dSum_list (xs : List D) : dSum [.list xs] = (intsD xs).map fun ns => .int ns.sum := rfl
@[simp] theorem intsD_map (ns : List Int) : intsD (ns.map .int) = some ns := by
  induction ns with
  | nil => rfl
  | cons a r ih => simp [intsD, ih]
@[simp] theorem strsD_map (ns : List Str) : strsD (ns.map .str) = some ns := by
  induction ns with
  | nil => rfl
  | cons a r ih => simp [strsD, ih]
@[simp] theorem iD_list (xs : List D) : iD (.list xs) = some xs := rfl
@[simp] theorem iD_tuple (xs : List D) : iD (.tuple xs) = some xs := rfl
@[simp] theorem iD_str (z : Str) : iD (.str z) = some (z.cps.toList.map fun c => .str ⟨#[c]⟩) := rfl
@[simp] theorem dIsN_none : dIsN .none = true := rfl
@[simp] theorem dIsN_str (s : Str) : dIsN (.str s) = false := rfl
/-! ### equality of data -/
@[simp] theorem dEq_str (a b : Str) : dEq (.str a) (.str b) = some (.bool (decide (a = b))) := rfl
@[simp] theorem dEq_int (a b : Int) : dEq (.int a) (.int b) = some (.bool (decide (a = b))) := rfl
@[simp] theorem dEq_bool (a b : Bool) : dEq (.bool a) (.bool b) = some (.bool (decide (a = b))) := rfl
@[simp] theorem dNe_str (a b : Str) : dNe (.str a) (.str b) = some (.bool (!decide (a = b))) := rfl
@[simp] theorem dNe_int (a b : Int) : dNe (.int a) (.int b) = some (.bool (!decide (a = b))) := rfl
@[simp] theorem dNe_bool (a b : Bool) : dNe (.bool a) (.bool b) = some (.bool (!decide (a = b))) := rfl
/-- fit to be compared, no truths within -/
def fit (d : D) : Prop := d.canLay0 = true ∧ d.depth ≤ 64
mutual
def nb : D → Bool
  | .bool _ => false
  | .list xs => nbs xs
  | .tuple xs => nbs xs
  | .dict _ => false
  | _ => true
def nbs : List D → Bool
  | [] => true
  | x :: xs => nb x && nbs xs
end
mutual
theorem eqv_iff : ∀ (a b : D), nb a = true → nb b = true → (PyData.eqv a b = true ↔ a = b)
  | .none, b, _, h => by cases b <;> simp [PyData.eqv, nb] at h ⊢
  | .bool _, _, h, _ => by simp [nb] at h
  | .dict _, _, h, _ => by simp [nb] at h
  | .int i, b, _, h => by cases b <;> simp [PyData.eqv, nb] at h ⊢
  | .str s, b, _, h => by cases b <;> simp [PyData.eqv, nb] at h ⊢
  | .list xs, b, h1, h => by
    cases b with
    | list ys => simp only [PyData.eqv, PyData.list.injEq]; exact eqvs_iff xs ys (by simpa [nb] using h1) (by simpa [nb] using h)
    | _ => simp [PyData.eqv]
  | .tuple xs, b, h1, h => by
    cases b with
    | tuple ys => simp only [PyData.eqv, PyData.tuple.injEq]; exact eqvs_iff xs ys (by simpa [nb] using h1) (by simpa [nb] using h)
    | _ => simp [PyData.eqv]
theorem eqvs_iff : ∀ (xs ys : List D), nbs xs = true → nbs ys = true → (PyData.eqvAll xs ys = true ↔ xs = ys)
  | [], [], _, _ => by simp [PyData.eqvAll]
  | [], _ :: _, _, _ => by simp [PyData.eqvAll]
  | _ :: _, [], _, _ => by simp [PyData.eqvAll]
  | x :: xs, y :: ys, h1, h2 => by
    simp only [nbs, Bool.and_eq_true] at h1 h2
    simp only [PyData.eqvAll, Bool.and_eq_true, List.cons.injEq, eqv_iff x y h1.1 h2.1, eqvs_iff xs ys h1.2 h2.2]
end
theorem dEq_seq {a b : D} (hs : scD a b = none) (ha : fit a) (hb : fit b) : dEq a b = some (.bool (PyData.eqv a b)) := by
  unfold dEq eqD
  rw [hs]
  simp [SeqAt.shaped, ha.1, ha.2, hb.1, hb.2]
theorem dNe_seq {a b : D} (hs : scD a b = none) (ha : fit a) (hb : fit b) : dNe a b = some (.bool (!PyData.eqv a b)) := by
  unfold dNe eqD
  rw [hs]
  simp [SeqAt.shaped, ha.1, ha.2, hb.1, hb.2]
/-- sets of texts as lists and tuples -/
theorem fit_strs (xs : List Str) (h : ∀ s ∈ xs, PyData.canLay0 (.str s) = true) : PyData.canLayAll0 (xs.map .str) = true ∧ PyData.depthAll (xs.map .str) = 0 ∧ nbs (xs.map .str) = true := by
  induction xs with
  | nil => simp [PyData.canLayAll0, PyData.depthAll, nbs]
  | cons a r ih =>
    obtain ⟨h1, h2, h3⟩ := ih fun s hs => h s (by simp [hs])
    simp [PyData.canLayAll0, PyData.depthAll, nbs, nb, h1, h2, h3, h a (by simp), PyData.depth]
theorem map_str_inj : ∀ {xs ys : List Str}, xs.map PyData.str = ys.map PyData.str ↔ xs = ys
  | [], [] => by simp
  | [], _ :: _ => by simp
  | _ :: _, [] => by simp
  | a :: r, b :: q => by simp only [List.map_cons, List.cons.injEq, PyData.str.injEq, map_str_inj (xs := r) (ys := q)]
theorem eqv_tupStrs {xs ys : List Str} (hx : ∀ s ∈ xs, PyData.canLay0 (.str s) = true) (hy : ∀ s ∈ ys, PyData.canLay0 (.str s) = true) : dEq (.tuple (xs.map .str)) (.tuple (ys.map .str)) = some (.bool (decide (xs = ys))) := by
  obtain ⟨a1, a2, a3⟩ := fit_strs xs hx
  obtain ⟨b1, b2, b3⟩ := fit_strs ys hy
  rw [dEq_seq rfl ⟨by simpa [PyData.canLay0] using a1, by simp [PyData.depth, a2]⟩ ⟨by simpa [PyData.canLay0] using b1, by simp [PyData.depth, b2]⟩]
  congr 2
  rw [Bool.eq_iff_iff, eqv_iff _ _ (by simpa [nb] using a3) (by simpa [nb] using b3)]
  simp [map_str_inj]
theorem nev_tupStrs {xs ys : List Str} (hx : ∀ s ∈ xs, PyData.canLay0 (.str s) = true) (hy : ∀ s ∈ ys, PyData.canLay0 (.str s) = true) : dNe (.tuple (xs.map .str)) (.tuple (ys.map .str)) = some (.bool (!decide (xs = ys))) := by
  obtain ⟨a1, a2, a3⟩ := fit_strs xs hx
  obtain ⟨b1, b2, b3⟩ := fit_strs ys hy
  rw [dNe_seq rfl ⟨by simpa [PyData.canLay0] using a1, by simp [PyData.depth, a2]⟩ ⟨by simpa [PyData.canLay0] using b1, by simp [PyData.depth, b2]⟩]
  congr 3
  rw [Bool.eq_iff_iff, eqv_iff _ _ (by simpa [nb] using a3) (by simpa [nb] using b3)]
  simp [map_str_inj]
end G
set_option Elab.async false
set_option linter.all false
set_option maxRecDepth 100000
/-! texts by their codes -/
namespace G
open PySem PySem.Spec PyProof.Rows L2
/-- the text of these codes -/
def tx (l : List Nat) : Str := ⟨l.toArray⟩
@[simp] theorem tx_len (l : List Nat) : (tx l).length = l.length := rfl
@[simp] theorem tx_cps (l : List Nat) : (tx l).cps.toList = l := rfl
@[simp] theorem tx_inj {a b : List Nat} : tx a = tx b ↔ a = b := by
  constructor
  · intro h
    have := congrArg (fun s : Str => s.cps.toList) h
    simpa using this
  · rintro rfl; rfl
@[simp] theorem tx_app (a b : List Nat) : tx a ++ tx b = tx (a ++ b) := by
  show Str.append (tx a) (tx b) = _
  simp [Str.append, tx]
theorem tx_of (s : Str) : s = tx s.cps.toList := by cases s; simp [tx]
theorem tx_one (c : Nat) : (⟨#[c]⟩ : Str) = tx [c] := rfl
theorem lay_tx {l : List Nat} (h : ∀ c ∈ l, c < 0x110000) : PyData.canLay0 (.str (tx l)) = true := by
  simp only [PyData.canLay0, PyData.strOk, tx]
  simpa using h
theorem join_empty (l : List (List Nat)) : Txt.join (tx []) (l.map tx) = tx l.flatten := by
  show Builtin.Str.glued _ _ = _
  rw [StrLaws.glued_eq_join]
  induction l with
  | nil => rfl
  | cons a r ih =>
    cases r with
    | nil => simp [PySem.Str.join]
    | cons b r =>
      simp only [List.map_cons, PySem.Str.join, List.flatten_cons] at ih ⊢
      rw [ih]
      simp
theorem dJoin_of {xs : List D} {ys : List Str} {a : Str} (h : strsD xs = some ys) (hle : (ys.map (·.length)).sum + ys.length * a.length ≤ 16777216) : dJoin (.str a) [.list xs] = some (.str (Txt.join a ys)) := by
  simp only [dJoin, h]
  exact if_pos hle
theorem flat1 : ∀ l : List Nat, (l.map fun c => [c]).flatten = l
  | [] => rfl
  | a :: r => by simp [flat1 r]
theorem sum1 : ∀ l : List Nat, ((l.map fun c => tx [c]).map (·.length)).sum = l.length
  | [] => rfl
  | a :: r => by
    have := sum1 r
    simp only [List.map_cons, List.sum_cons, List.length_cons, tx_len, List.length_nil] at this ⊢
    omega
/-- single signs glued -/
theorem join_signs {l : List Nat} (h : l.length ≤ 16777216) : dJoin (.str (tx [])) [.list (l.map fun c => .str (tx [c]))] = some (.str (tx l)) := by
  have hj : strsD (l.map fun c => .str (tx [c])) = some (l.map fun c => tx [c]) := by
    have := strsD_map (l.map fun c => tx [c])
    rwa [List.map_map] at this
  have hf : Txt.join (tx []) (l.map fun c => tx [c]) = tx l := by
    have := join_empty (l.map fun c => [c])
    rw [List.map_map, flat1] at this
    exact this
  rw [dJoin_of hj, hf]
  rw [sum1]
  show l.length + _ * 0 ≤ _
  rw [Nat.mul_zero]
  exact h
theorem rg1_nat {n : Nat} (h : n ≤ 1000000) : rg1 [.int n] = some (rgD 0 n) := by
  unfold rg1
  exact if_pos (by omega)
@[simp] theorem rgD_len (n : Nat) : (rgD 0 n).length = n := by simp [rgD]
theorem lt_line {n : Nat} (h : n ≤ 1000000) : n < sizeLine := Nat.lt_of_le_of_lt h (by decide)
theorem le_line {n : Nat} (h : n ≤ 1000000) : n ≤ sizeLine := Nat.le_trans h (by decide)
@[simp] theorem s_e : Str.ofString "" = tx [] := rfl
@[simp] theorem s_0 : Str.ofString "0" = tx [48] := by decide +kernel
@[simp] theorem s_1 : Str.ofString "1" = tx [49] := by decide +kernel
@[simp] theorem s_s : Str.ofString "*" = tx [42] := by decide +kernel
@[simp] theorem s_01 : Str.ofString "01" = tx [48, 49] := by decide +kernel
@[simp] theorem s_11 : Str.ofString "11" = tx [49, 49] := by decide +kernel
@[simp] theorem s_s1 : Str.ofString "*1" = tx [42, 49] := by decide +kernel
@[simp] theorem s_01s : Str.ofString "01*" = tx [48, 49, 42] := by decide +kernel
@[simp] theorem s_6s : Str.ofString "******" = tx [42, 42, 42, 42, 42, 42] := by decide +kernel
@[simp] theorem s_w3 : Str.ofString "01010101*" = tx [48, 49, 48, 49, 48, 49, 48, 49, 42] := by decide +kernel
@[simp] theorem s_w4 : Str.ofString "01****" = tx [48, 49, 42, 42, 42, 42] := by decide +kernel
theorem sub1 {l : List Nat} {c i : Nat} (h : i < l.length) : Builtin.Str.subAt (tx l) (tx [c]) i = decide (l[i] = c) := by
  unfold Builtin.Str.subAt
  have : (tx l).cps.extract i (i + (tx [c]).length) = #[l[i]] := by
    apply Array.ext'
    simp only [tx, Str.length, Array.toList_extract]
    simp [List.extract]
    rw [List.drop_eq_getElem_cons h]
    rfl
  rw [this]
  simp [tx, Bool.beq_eq_decide_eq]
theorem cnt_go (l : List Nat) (c : Nat) : ∀ (k i : Nat) (arr : Array Nat) (free : Nat), i + k = l.length + 1 → free ≤ i → arr.size ≤ i →
    (Id.run (forIn (List.range' i k) (arr, free) fun i s =>
      if ((decide (s.fst.size < l.length + 1) = true ∧ s.snd ≤ i) ∧ i + 1 ≤ l.length) ∧ Builtin.Str.subAt (tx l) (tx [c]) i = true then
        pure (ForInStep.yield (s.fst.push i, i + 1))
      else pure (ForInStep.yield (s.fst, s.snd)))).1.size = arr.size + (l.drop i).count c
  | 0, i, arr, free, h, _, _ => by
    rw [List.drop_of_length_le (by omega)]
    simp
  | k + 1, i, arr, free, h, hf, ha => by
    rw [List.range'_succ, List.forIn_cons]
    by_cases hi : i < l.length
    · have hs := sub1 (c := c) hi
      have ed : l.drop i = l[i] :: l.drop (i + 1) := List.drop_eq_getElem_cons hi
      by_cases hc : l[i] = c
      · rw [if_pos ⟨⟨⟨by simp; omega, hf⟩, hi⟩, by rw [hs]; simp [hc]⟩]
        have := cnt_go l c k (i + 1) (arr.push i) (i + 1) (by omega) (Nat.le_refl _) (by simp; omega)
        simp only [pure_bind]
        rw [this, ed, hc]
        simp
        omega
      · rw [if_neg (fun z => hc (by have := z.2; rw [hs] at this; simpa using this))]
        have := cnt_go l c k (i + 1) arr free (by omega) (by omega) (by omega)
        simp only [pure_bind]
        rw [this, ed, List.count_cons_of_ne (Ne.symm (fun z => hc z.symm))]
    · rw [if_neg (fun z => hi z.1.2)]
      have := cnt_go l c k (i + 1) arr free (by omega) (by omega) (by omega)
      simp only [pure_bind]
      rw [this, List.drop_of_length_le (by omega), List.drop_of_length_le (by omega)]
theorem count1 (l : List Nat) (c : Nat) : Txt.count (tx l) (tx [c]) = (l.count c : Int) := by
  have h := cnt_go l c (l.length + 1) 0 #[] 0 (by omega) (Nat.le_refl _) (Nat.le_refl _)
  unfold Txt.count Builtin.Str.occurrences
  simp only [Id.run, List.drop_zero, Array.size_empty, Nat.zero_add] at h
  simp [Id.run]
  refine congrArg Nat.cast (Eq.trans ?_ h)
  rfl
end G
set_option linter.all false
set_option maxRecDepth 100000
namespace G
open PySem PySem.Spec PyProof.Rows L2
/-! steps: one lemma for each reading, over variables -/
section
variable {e e0 e1 e2 e3 : En} {a b d d1 d2 c : D} {ds ls acc xs ys : List D} {p q : XE} {qa : XA} {pi : XI}
theorem st_var {i : Nat} (h : e[i]? = some (.dat d)) : eVar i e = .ok d e := by unfold eVar; rw [h]
theorem st_c : eC d e = .ok d e := rfl
theorem st_op {g : D → D → Option D} (h1 : p e = .ok a e1) (h2 : q e1 = .ok b e2) (h : g a b = some d) : eOp g p q e = .ok d e2 := by unfold eOp; rw [h1]; show (q e1).bind _ = _; rw [h2]; show R.lift (g a b) e2 = _; rw [h]; rfl
theorem st_an : aNil e = .ok [] e := rfl
theorem st_ac (h1 : p e = .ok d e1) (h2 : qa e1 = .ok ds e2) : aCons p qa e = .ok (d :: ds) e2 := by unfold aCons; rw [h1]; show (qa e1).bind _ = _; rw [h2]; rfl
theorem st_call {g : List D → Option D} (h1 : qa e = .ok ds e1) (h : g ds = some d) : eCall g qa e = .ok d e1 := by unfold eCall; rw [h1]; show R.lift (g ds) e1 = _; rw [h]; rfl
theorem st_meth {ty : D → Bool} {g : D → List D → Option D} (h1 : p e = .ok c e1) (ht : ty c = true) (h2 : qa e1 = .ok ds e2) (h : g c ds = some d) : eMeth ty g p qa e = .ok d e2 := by unfold eMeth; rw [h1]; show (if ty c = true then _ else _) = _; rw [if_pos ht, h2]; show R.lift (g c ds) e2 = _; rw [h]; rfl
theorem st_new (h1 : pi e = .ok ds e1) : eNew pi e = .ok (.list ds) e1 := by unfold eNew; rw [h1]; rfl
theorem st_isNn (h1 : p e = .ok d e1) : eIsN p e = .ok (.bool (dIsN d)) e1 := by unfold eIsN; rw [h1]; rfl
theorem st_isNo (h1 : p e = .ok d e1) : eNotN p e = .ok (.bool (!dIsN d)) e1 := by unfold eNotN; rw [h1]; rfl
theorem st_not {b : Bool} (h1 : p e = .ok (.bool b) e1) : eNot p e = .ok (.bool (!b)) e1 := by unfold eNot; rw [h1]; rfl
theorem st_and_t {r : R D} (h1 : p e = .ok (.bool true) e1) (h2 : q e1 = r) : eAnd p q e = r := by unfold eAnd; rw [h1]; exact h2
theorem st_and_f (h1 : p e = .ok (.bool false) e1) : eAnd p q e = .ok (.bool false) e1 := by unfold eAnd; rw [h1]; rfl
theorem st_or_f {r : R D} (h1 : p e = .ok (.bool false) e1) (h2 : q e1 = r) : eOr p q e = r := by unfold eOr; rw [h1]; exact h2
theorem st_or_t (h1 : p e = .ok (.bool true) e1) : eOr p q e = .ok (.bool true) e1 := by unfold eOr; rw [h1]; rfl
theorem st_isi {T : String} {b : Bool} (h1 : p e = .ok d e1) (h : kitB (tyN d) T = some b) : eIsi T p e = .ok (.bool b) e1 := by unfold eIsi; rw [h1]; show R.lift ((kitB (tyN d) T).map PyData.bool) e1 = _; rw [h]; rfl
/-- tests -/
theorem tt_of {b : Bool} (h1 : p e = .ok (.bool b) e1) : tOf p e = .ok b e1 := by unfold tOf; rw [h1]; rfl
theorem tt_tru {b : Bool} (h1 : p e = .ok d e1) (h : dTru d = some b) : tTru p e = .ok b e1 := by unfold tTru; rw [h1]; show R.lift (dTru d) e1 = _; rw [h]; rfl
theorem tt_and_t {t u : XT} {r : R Bool} (h1 : t e = .ok true e1) (h2 : u e1 = r) : tAnd t u e = r := by unfold tAnd; rw [h1]; exact h2
theorem tt_and_f {t u : XT} (h1 : t e = .ok false e1) : tAnd t u e = .ok false e1 := by unfold tAnd; rw [h1]; rfl
theorem tt_or_f {t u : XT} {r : R Bool} (h1 : t e = .ok false e1) (h2 : u e1 = r) : tOr t u e = r := by unfold tOr; rw [h1]; exact h2
theorem tt_or_t {t u : XT} (h1 : t e = .ok true e1) : tOr t u e = .ok true e1 := by unfold tOr; rw [h1]; rfl
theorem tt_not {t : XT} {b : Bool} (h1 : t e = .ok b e1) : tNot t e = .ok (!b) e1 := by unfold tNot; rw [h1]; rfl
theorem tt_yes : (fun e => R.ok true e : XT) e = .ok true e := rfl
/-- walks -/
theorem it_args {g : List D → Option (List D)} (h : qa e = .ok ls e1) (h2 : g ls = some ds) : iArgs g qa e = .ok ds e1 := by unfold iArgs; rw [h]; show R.lift (g ls) e1 = _; rw [h2]; rfl
theorem it_of (h : p e = .ok d e1) (h2 : iD d = some ds) : iOf p e = .ok ds e1 := by unfold iOf; rw [h]; show R.lift (iD d) e1 = _; rw [h2]; rfl
/-- new lists -/
theorem nl_lst (h : qa e = .ok ds e1) (h2 : ds.length ≤ sizeLine) : nLst qa e = .ok ds e1 := by unfold nLst; rw [h]; show (if ds.length ≤ sizeLine then _ else _) = _; rw [if_pos h2]
theorem nl_lc {t : XG} {c : XT} {x : XE} {vs : List Nat} (h1 : pi e = .ok ds e1) (h2 : ds.length < sizeLine) (h3 : lcGo t c x vs ds (wipeE e1 vs) [] = .ok acc e2) : nLc pi t c x vs e = .ok acc (back e1 e2 vs) := by
  unfold nLc; rw [h1]; show (if ds.length < sizeLine then _ else _) = _; rw [if_pos h2, h3]; rfl
theorem nl_lc2 {t : XG} {c : XT} {pi1 : XI} {t1 : XG} {c1 : XT} {x : XE} {vs vs1 : List Nat} (h1 : pi e = .ok ds e1) (h3 : lc2Go t c pi1 t1 c1 x vs vs1 ds (wipeE e1 vs) [] = .ok acc e2) : nLc2 pi t c pi1 t1 c1 x vs vs1 e = .ok acc (back e1 e2 vs) := by
  unfold nLc2; rw [h1]; show (lc2Go t c pi1 t1 c1 x vs vs1 ds (wipeE e1 vs) []).bind _ = _; rw [h3]; rfl
theorem nl_call {g : List D → Option (List D)} (h : qa e = .ok ls e1) (h2 : g ls = some ds) : nCall g qa e = .ok ds e1 := by unfold nCall; rw [h]; show R.lift (g ls) e1 = _; rw [h2]; rfl
theorem nl_take {i : Nat} (h : e[i]? = some (.own none (.lst ds))) : nTake i e = .ok ds (e.set i .un) := by unfold nTake; rw [h]
theorem lc_nil {t : XG} {c : XT} {x : XE} {vs : List Nat} : lcGo t c x vs [] e acc = .ok acc e := rfl
theorem lc_yes {t : XG} {c : XT} {x : XE} {vs : List Nat} {y : D} {r : R (List D)} (h1 : t d e = some e1) (h2 : c e1 = .ok true e2) (h3 : x e2 = .ok y e3) (h4 : lcGo t c x vs ds (wipeE e3 vs) (acc ++ [y]) = r) : lcGo t c x vs (d :: ds) e acc = r := by
  simp only [lcGo, h1, h2, R.noex, R.bind_ok, if_true, h3, h4]
theorem lc_no {t : XG} {c : XT} {x : XE} {vs : List Nat} {r : R (List D)} (h1 : t d e = some e1) (h2 : c e1 = .ok false e2) (h4 : lcGo t c x vs ds (wipeE e2 vs) acc = r) : lcGo t c x vs (d :: ds) e acc = r := by
  simp only [lcGo, h1, h2, R.noex, R.bind_ok, h4]; rfl
/-- statements -/
theorem ss_nx : sNx e = .ok .nx e := rfl
theorem ss_seq {p q : XS} {r : R Fl} (h1 : p e = .ok .nx e1) (h2 : q e1 = r) : sSeq p q e = r := by unfold sSeq; rw [h1]; exact h2
theorem ss_seqR {p q : XS} (h1 : p e = .ok (.rt d) e1) : sSeq p q e = .ok (.rt d) e1 := by unfold sSeq; rw [h1]; rfl
theorem ss_seqN {p q : XS} (h1 : p e = .ok (.rn ds) e1) : sSeq p q e = .ok (.rn ds) e1 := by unfold sSeq; rw [h1]; rfl
theorem ss_seqC {p q : XS} (h1 : p e = .ok .ct e1) : sSeq p q e = .ok .ct e1 := by unfold sSeq; rw [h1]; rfl
theorem ss_seqB {p q : XS} (h1 : p e = .ok .bk e1) : sSeq p q e = .ok .bk e1 := by unfold sSeq; rw [h1]; rfl
theorem ss_setD {i : Nat} (h : p e = .ok d e1) : sSet i p e = .ok .nx (e1.set i (.dat d)) := by unfold sSet; rw [h]; rfl
theorem ss_ownD {i : Nat} (h : pi e = .ok ds e1) : sOwn i pi e = .ok .nx (e1.set i (.own none (.lst ds))) := by unfold sOwn; rw [h]; rfl
theorem ss_exp (h : p e = .ok d e1) : sExpr p e = .ok .nx e1 := by unfold sExpr; rw [h]; rfl
theorem ss_rt (h : p e = .ok d e1) : sRet p e = .ok (.rt d) e1 := by unfold sRet; rw [h]; rfl
theorem ss_rn (h : pi e = .ok ds e1) : sRetN pi e = .ok (.rn ds) e1 := by unfold sRetN; rw [h]; rfl
theorem ss_ift {t : XT} {p q : XS} {r : R Fl} (h : t e = .ok true e1) (h2 : p e1 = r) : sIf t p q e = r := by unfold sIf; rw [h]; exact h2
theorem ss_iff {t : XT} {p q : XS} {r : R Fl} (h : t e = .ok false e1) (h2 : q e1 = r) : sIf t p q e = r := by unfold sIf; rw [h]; exact h2
theorem ss_forD {t : XG} {b : XS} {r : R Fl} (h : pi e = .ok ds e1) (h2 : forD t b ds e1 = r) : sFor pi t b e = r := by unfold sFor; rw [h]; exact h2
theorem fd_nil {t : XG} {b : XS} : forD t b [] e = .ok .nx e := rfl
theorem fd_nx {t : XG} {b : XS} {r : R Fl} (h1 : t d e = some e1) (h2 : b e1 = .ok .nx e2) (h3 : forD t b ds e2 = r) : forD t b (d :: ds) e = r := by unfold forD; rw [h1]; show (b e1).bind _ = _; rw [h2]; exact h3
theorem fd_ct {t : XG} {b : XS} {r : R Fl} (h1 : t d e = some e1) (h2 : b e1 = .ok .ct e2) (h3 : forD t b ds e2 = r) : forD t b (d :: ds) e = r := by unfold forD; rw [h1]; show (b e1).bind _ = _; rw [h2]; exact h3
theorem fd_bk {t : XG} {b : XS} (h1 : t d e = some e1) (h2 : b e1 = .ok .bk e2) : forD t b (d :: ds) e = .ok .nx e2 := by unfold forD; rw [h1]; show (b e1).bind _ = _; rw [h2]; rfl
theorem fd_rt {t : XG} {b : XS} (h1 : t d e = some e1) (h2 : b e1 = .ok (.rt c) e2) : forD t b (d :: ds) e = .ok (.rt c) e2 := by unfold forD; rw [h1]; show (b e1).bind _ = _; rw [h2]; rfl
theorem ss_mut {i : Nat} {g : List D → List D → Option (D × List D)} {t : Option Nat} (h0 : e[i]? = some (.own t (.lst xs))) (h1 : qa e = .ok ds e1) (h2 : e1[i]? = some (.own t (.lst xs))) (h3 : g xs ds = some (d, ys)) : eMut i g qa e = .ok d (e1.set i (.own t (.lst ys))) := by
  unfold eMut; rw [h0]; show (qa e).bind _ = _; rw [h1]; simp only [R.bind_ok, h2, h3]
theorem st_lenOwn {i : Nat} {t : Option Nat} (h0 : e[i]? = some (.own t (.lst xs))) : eLenOwn i e = .ok (.int xs.length) e := by unfold eLenOwn; rw [h0]
theorem st_ixOwn {i : Nat} {t u : Option Nat} (h0 : e[i]? = some (.own t (.lst xs))) (h1 : q e = .ok a e1) (h2 : e1[i]? = some (.own u (.lst ys))) (h3 : dIx (.list ys) a = some d) : eIxOwn i q e = .ok d e1 := by
  unfold eIxOwn; rw [h0]; show (q e).bind _ = _; rw [h1]; simp only [R.bind_ok, h2, h3]; rfl
/-- calls -/
theorem sr_nilD : rNil e = .ok [] e := rfl
theorem sr_consD {q : XR} {as : List Ar} (h1 : p e = .ok d e1) (h2 : q e1 = .ok as e2) : rCons p q e = .ok (.d d :: as) e2 := by unfold rCons; rw [h1]; show (q e1).bind _ = _; rw [h2]; rfl
theorem sr_ioD {q : XR} {as : List Ar} {i : Nat} {t : Option Nat} {o : Ob} (h0 : e[i]? = some (.own t o)) (h2 : q e = .ok as e2) : rIo i q e = .ok (.io i :: as) e2 := by unfold rIo; rw [h0]; show (q e).bind _ = _; rw [h2]; rfl
theorem sr_scrD {q : XR} {as : List Ar} {i : Nat} (h0 : e[i]? = some (.scr xs)) (h2 : q e = .ok as e2) : rScr i q e = .ok (.scr xs :: as) e2 := by unfold rScr; rw [h0]; show (q e).bind _ = _; rw [h2]; rfl
/-- a call with data alone -/
theorem cl_ok {n : Nat} {F : List Sl → RF} {q : XR} {as : List Ar} {args : List Sl} {os : List Ob} (h : q e = .ok as e1) (hn : as.length = n) (hi : ios as = []) (hr : resolve e1 as 0 = some args) (hF : F args = .ok d os) : eFn n 0 F q e = .ok d e1 := by
  unfold eFn; rw [h]; show (if as.length = n ∧ (ios as).length = 0 then _ else _) = _
  rw [if_pos ⟨hn, by rw [hi]; rfl⟩, hr]
  show behind e1 as (F args) = _
  rw [hF]; unfold behind; rw [hi]
theorem cl_newV {n : Nat} {F : List Sl → RF} {q : XR} {as : List Ar} {args : List Sl} {os : List Ob} (h : q e = .ok as e1) (hn : as.length = n) (hi : ios as = []) (hr : resolve e1 as 0 = some args) (hF : F args = .new ds os) : eFn n 0 F q e = .ok (.list ds) e1 := by
  unfold eFn; rw [h]; show (if as.length = n ∧ (ios as).length = 0 then _ else _) = _
  rw [if_pos ⟨hn, by rw [hi]; rfl⟩, hr]
  show behind e1 as (F args) = _
  rw [hF]; unfold behind; rw [hi]
theorem cl_new {n : Nat} {F : List Sl → RF} {q : XR} {as : List Ar} {args : List Sl} {os : List Ob} (h : q e = .ok as e1) (hn : as.length = n) (hi : ios as = []) (hr : resolve e1 as 0 = some args) (hF : F args = .new ds os) : nFn n 0 F q e = .ok ds e1 := by
  unfold nFn; rw [h]; show (if as.length = n ∧ (ios as).length = 0 then _ else _) = _
  rw [if_pos ⟨hn, by rw [hi]; rfl⟩, hr]
  show behindN e1 as (F args) = _
  rw [hF]; unfold behindN; rw [hi]
/-- a call with one thing that is written -/
theorem cl_io {n i : Nat} {t : Option Nat} {o o' : Ob} {F : List Sl → RF} {q : XR} {as : List Ar} {args : List Sl} (h : q e = .ok as e1) (hn : as.length = n) (hi : ios as = [i]) (h0 : e1[i]? = some (.own t o)) (hr : resolve e1 as 0 = some args) (hF : F args = .ok d [o']) : eFn n 1 F q e = .ok d (e1.set i (.own t o')) := by
  unfold eFn; rw [h]; show (if as.length = n ∧ (ios as).length = 1 then _ else _) = _
  rw [if_pos ⟨hn, by rw [hi]; rfl⟩, hr]
  show behind e1 as (F args) = _
  rw [hF]; unfold behind; rw [hi]
  show (match putO e1 i o' with | some e' => R.ok d e' | none => .bad) = _
  unfold putO; rw [h0]
theorem cl_ioN {n i : Nat} {t : Option Nat} {o o' : Ob} {F : List Sl → RF} {q : XR} {as : List Ar} {args : List Sl} (h : q e = .ok as e1) (hn : as.length = n) (hi : ios as = [i]) (h0 : e1[i]? = some (.own t o)) (hr : resolve e1 as 0 = some args) (hF : F args = .new ds [o']) : nFn n 1 F q e = .ok ds (e1.set i (.own t o')) := by
  unfold nFn; rw [h]; show (if as.length = n ∧ (ios as).length = 1 then _ else _) = _
  rw [if_pos ⟨hn, by rw [hi]; rfl⟩, hr]
  show behindN e1 as (F args) = _
  rw [hF]; unfold behindN; rw [hi]
  show (match putO e1 i o' with | some e' => R.ok ds e' | none => .bad) = _
  unfold putO; rw [h0]
theorem run_rt {n nio : Nat} {b : XS} {args : List Sl} {os : List Ob} (h : b (args ++ List.replicate (n - args.length) .un) = .ok (.rt d) e) (ho : outsOf nio e = some os) : runF n nio b args = .ok d os := by unfold runF; rw [h]; show (match outsOf nio e with | some os => RF.ok d os | none => .bad) = _; rw [ho]
theorem run_rn {n nio : Nat} {b : XS} {args : List Sl} {os : List Ob} (h : b (args ++ List.replicate (n - args.length) .un) = .ok (.rn ds) e) (ho : outsOf nio e = some os) : runF n nio b args = .new ds os := by unfold runF; rw [h]; show (match outsOf nio e with | some os => RF.new ds os | none => .bad) = _; rw [ho]
theorem run_nx {n nio : Nat} {b : XS} {args : List Sl} {os : List Ob} (h : b (args ++ List.replicate (n - args.length) .un) = .ok .nx e) (ho : outsOf nio e = some os) : runF n nio b args = .ok .none os := by unfold runF; rw [h]; show (match outsOf nio e with | some os => RF.ok .none os | none => .bad) = _; rw [ho]
end
end G
set_option linter.all false
namespace G
open PySem PySem.Spec PyProof.Rows L2
/-! faces as lists of codes -/
def Signs (l : List Nat) : Prop := ∀ c ∈ l, c = 48 ∨ c = 49 ∨ c = 42
def ch (c : Nat) : List Nat := if c = 42 then [48, 49] else [c]
def cor : List Nat → List (List Nat)
  | [] => [[]]
  | c :: f => (ch c).flatMap fun x => (cor f).map (x :: ·)
def fstep (b : List (List Nat)) (c : Nat) : List (List Nat) := b.flatMap fun s => (ch c).map fun x => s ++ [x]
theorem fold_cor : ∀ (f : List Nat) (b : List (List Nat)), f.foldl fstep b = b.flatMap fun s => (cor f).map (s ++ ·)
  | [], b => by
    simp [cor]
  | c :: f, b => by
    simp only [List.foldl_cons, fold_cor f, fstep, cor]
    induction b with
    | nil => rfl
    | cons a r ih =>
      simp only [List.flatMap_cons, List.flatMap_append, ih]
      congr 1
      unfold ch
      split <;> simp [List.map_map, Function.comp_def]
theorem fold_cor0 (f : List Nat) : f.foldl fstep [[]] = cor f := by simp [fold_cor]
def mat : List Nat → List Nat → Bool
  | c :: f, x :: l => (c == 42 || c == x) && mat f l
  | _, _ => true
theorem filter_map' {α β : Type} (g : α → β) (p : β → Bool) : ∀ l : List α, (l.map g).filter p = (l.filter fun x => p (g x)).map g
  | [] => rfl
  | a :: l => by
    simp only [List.map_cons, List.filter_cons]
    split <;> simp [filter_map' g p l, *]
theorem filter_mat : ∀ {f : List Nat}, Signs f → (cor (List.replicate f.length 42)).filter (mat f) = cor f
  | [], _ => rfl
  | c :: f, h => by
    have ih := filter_mat (f := f) fun x hx => h x (by simp [hx])
    have e : cor (List.replicate (c :: f).length 42) = (cor (List.replicate f.length 42)).map (48 :: ·) ++ (cor (List.replicate f.length 42)).map (49 :: ·) := by
      simp [List.replicate_succ, cor, ch]
    have no : ∀ L : List (List Nat), L.filter (fun _ => false) = [] := by intro L; induction L <;> simp [*]
    rw [e, List.filter_append, filter_map', filter_map']
    rcases h c (by simp) with rfl | rfl | rfl
    · simp [mat, ih, cor, ch, no]
    · simp [mat, ih, cor, ch, no]
    · simp [mat, ih, cor, ch]
def bitsOf (n k : Nat) : List Nat := (List.range n).map fun p => 48 + k / 2 ^ (n - 1 - p) % 2
theorem all_bits {n : Nat} (h1 : 1 ≤ n) (h6 : n ≤ 6) : (List.range (2 ^ n)).map (bitsOf n) = cor (List.replicate n 42) := by
  have : n = 1 ∨ n = 2 ∨ n = 3 ∨ n = 4 ∨ n = 5 ∨ n = 6 := by omega
  rcases this with rfl | rfl | rfl | rfl | rfl | rfl <;> decide +kernel
theorem due_eq {f : List Nat} (hs : Signs f) (h1 : 1 ≤ f.length) (h6 : f.length ≤ 6) : ((List.range (2 ^ f.length)).map (bitsOf f.length)).filter (mat f) = cor f := by
  rw [all_bits h1 h6, filter_mat hs]
theorem cor_len : ∀ {f l : List Nat}, l ∈ cor f → l.length = f.length
  | [], l, h => by simp [cor] at h; simp [h]
  | c :: f, l, h => by
    simp only [cor, List.mem_flatMap, List.mem_map] at h
    obtain ⟨x, _, m, hm, rfl⟩ := h
    simp [cor_len hm]
theorem cor_codes : ∀ {f l : List Nat}, Signs f → l ∈ cor f → ∀ c ∈ l, c = 48 ∨ c = 49
  | [], l, _, h => by simp [cor] at h; simp [h]
  | c :: f, l, hs, h => by
    simp only [cor, List.mem_flatMap, List.mem_map] at h
    obtain ⟨x, hx, m, hm, rfl⟩ := h
    have ih := cor_codes (f := f) (fun x hx => hs x (by simp [hx])) hm
    intro y hy
    rcases List.mem_cons.mp hy with rfl | hy
    · rcases hs c (by simp) with rfl | rfl | rfl <;> simp [ch] at hx <;> omega
    · exact ih y hy
theorem cor_count : ∀ f : List Nat, (cor f).length = 2 ^ (f.count 42)
  | [] => rfl
  | c :: f => by
    simp only [cor, List.length_flatMap, List.length_map, cor_count f, List.count_cons]
    unfold ch
    by_cases h : c = 42
    · simp [h, Nat.pow_succ]; omega
    · simp [h]
theorem cor_le {f : List Nat} (h : f.length ≤ 6) : (cor f).length ≤ 64 := by
  rw [cor_count]
  have : f.count 42 ≤ 6 := Nat.le_trans List.count_le_length h
  exact Nat.pow_le_pow_right (n := 2) (by decide) this
/-- more steps -/
theorem lc2_nil {t : XG} {c : XT} {pi1 : XI} {t1 : XG} {c1 : XT} {x : XE} {vs vs1 : List Nat} {e : En} {acc : List D} : lc2Go t c pi1 t1 c1 x vs vs1 [] e acc = .ok acc e := rfl
theorem lc2_yes {t : XG} {c : XT} {pi1 : XI} {t1 : XG} {c1 : XT} {x : XE} {vs vs1 : List Nat} {d : D} {ds ds1 acc acc' : List D} {e e1 e2 e3 e4 : En} {r : R (List D)} (h1 : t d e = some e1) (h2 : c e1 = .ok true e2) (h3 : pi1 e2 = .ok ds1 e3) (h4 : acc.length + ds1.length < sizeLine)
    (h5 : lcGo t1 c1 x vs1 ds1 (wipeE e3 vs1) acc = .ok acc' e4) (h6 : lc2Go t c pi1 t1 c1 x vs vs1 ds (wipeE e4 vs) acc' = r) : lc2Go t c pi1 t1 c1 x vs vs1 (d :: ds) e acc = r := by
  simp only [lc2Go, h1, h2, h3, h5, h6, R.noex, R.bind_ok, if_true, if_pos h4]
theorem bitAnd1 (x : Nat) : Builtin.bitAnd (x : Int) 1 = ((x % 2 : Nat) : Int) := by
  unfold Builtin.bitAnd
  have h0 : decide (0 ≤ (x : Int)) = true := decide_eq_true (by omega)
  have h1 : decide ((0 : Int) ≤ 1) = true := by decide
  rw [h0, h1]
  show ((((x : Int).toNat &&& (1 : Int).toNat) : Nat) : Int) = _
  rw [Int.toNat_natCast, show (1 : Int).toNat = 1 from rfl, Nat.and_one_is_mod]
theorem dAdd_tx {a b : List Nat} (h : a.length + b.length ≤ 1000000) : dAdd (.str (tx a)) (.str (tx b)) = some (.str (tx (a ++ b))) := by
  rw [dAdd_str, if_pos (by rw [tx_len, tx_len]; exact le_line h), tx_app]
theorem iD_tx (l : List Nat) : iD (.str (tx l)) = some (l.map fun c => .str (tx [c])) := rfl
theorem st_varO {e : En} {i : Nat} {t : Option Nat} {ds : List D} (h : e[i]? = some (.own t (.lst ds))) : eVar i e = .ok (.list ds) (e.set i (.dat (.list ds))) := by unfold eVar; rw [h]
theorem rgD_nat' (n : Nat) : rgD 0 n = (List.range n).map fun p => .int (p : Nat) := by simp [rgD]
end G
set_option linter.all false
set_option maxRecDepth 100000
namespace G
open PySem PySem.Spec PyProof.Rows L2
variable {X : Cx} {W : WX} {pos : Pos}
/-! ### in -/
def flD : D → Bool
  | .none => true
  | .bool _ => true
  | .int _ => true
  | .str _ => true
  | _ => false
def eqS : D → D → Bool
  | .none, .none => true
  | .bool a, .bool b => a == b
  | .bool a, .int b => (if a then 1 else 0) == b
  | .int a, .bool b => a == (if b then 1 else 0)
  | .int a, .int b => a == b
  | .str a, .str b => a == b
  | _, _ => false
theorem fl_V {K : Frag} {Z : Hp} {v : V} {d : D} (h : Dq K Z v d) (f : flD d = true) : flatV v = true := by
  cases h <;> first | rfl | cases f
theorem fl_eq {K : Frag} {Z : Hp} {v w : V} {d e : D} (h : Dq K Z v d) (f : flD d = true) (h2 : Dq K Z w e) (f2 : flD e = true) : eqV v w = eqS d e := by
  cases h <;> cases h2 <;> first | rfl | (cases f; done) | (cases f2; done)
theorem fl_all {K : Frag} {Z : Hp} : ∀ {vs : List V} {ds : List D}, DqAll K Z vs ds → ds.all flD = true → vs.all flatV = true
  | _, _, .nil, _ => rfl
  | _, _, .cons a b, h => by
    simp only [List.all_cons, Bool.and_eq_true] at h ⊢
    exact ⟨fl_V a h.1, fl_all b h.2⟩
theorem fl_any {K : Frag} {Z : Hp} {w : V} {e : D} (h2 : Dq K Z w e) (f2 : flD e = true) : ∀ {vs : List V} {ds : List D}, DqAll K Z vs ds → ds.all flD = true → (vs.any fun y => eqV y w) = ds.any fun y => eqS y e
  | _, _, .nil, _ => rfl
  | _, _, .cons a b, h => by
    simp only [List.all_cons, Bool.and_eq_true] at h
    simp only [List.any_cons, fl_eq a h.1 h2 f2, fl_any h2 f2 b h.2]
def dInQ (neg : Bool) (x : D) (ys : List D) : Option D := if flD x = true ∧ ys.all flD = true then some (.bool (if neg then !ys.any fun y => eqS y x else ys.any fun y => eqS y x)) else none
def dIn2 (neg : Bool) : D → D → Option D
  | .str s, .str z => if s.length = 1 then some (.bool (if neg then !decide (s.cps.getD 0 0 ∈ z.cps.toList) else decide (s.cps.getD 0 0 ∈ z.cps.toList))) else none
  | x, .list ys => dInQ neg x ys
  | x, .tuple ys => dInQ neg x ys
  | _, _ => none
def dIn : D → D → Option D := dIn2 false
def dNin : D → D → Option D := dIn2 true
theorem ok_in2 {K : Frag} {neg : Bool} : Ok2 K (fun x y H Q => (∃ (c : Nat) (z : Str), x = .str ⟨#[c]⟩ ∧ y = .str z ∧ Q (.bl (if neg then !decide (c ∈ z.cps.toList) else decide (c ∈ z.cps.toList))) H) ∨ rIn K neg x y H Q) (dIn2 neg) := by
  intro Z H x y d1 d2 d Q s D1 D2 e k
  have seq : ∀ ys p ws, y = .ref p → (SqL K Z p ws ∨ SqT K Z p ws) → DqAll K Z ws ys → dInQ neg d1 ys = some d → rIn K neg x y H Q := by
    intro ys p ws hy hq ha he
    unfold dInQ at he
    split at he
    · rename_i hf
      cases he
      refine ⟨p, ws, hy, hq.imp (Same.seq s) (same_tup s), fl_V D1 hf.1, fl_all ha hf.2, ?_⟩
      have h := fl_any D1 hf.1 ha hf.2
      unfold inV
      rw [h]
      exact k _ Z H (Nw.refl s) (.bl _)
    · cases he
  unfold dIn2 at e
  split at e
  · rename_i a z
    split at e
    · rename_i hl
      cases e
      cases dp_str D1
      cases dp_str D2
      refine .inl ⟨a.cps.getD 0 0, z, ?_, rfl, k _ Z H (Nw.refl s) (.bl _)⟩
      obtain ⟨l⟩ := a
      obtain ⟨l⟩ := l
      match l, hl with
      | [c], _ => rfl
    · cases e
  · rename_i ys
    obtain ⟨p, ws, hy, h1, h2⟩ := dp_list D2
    exact .inr (seq ys p ws hy (.inl (.inl (.inl h1))) h2 e)
  · rename_i ys
    obtain ⟨p, ws, hy, h1, h2⟩ := dp_tuple D2
    exact .inr (seq ys p ws hy (.inr h1) h2 e)
  · cases e
theorem ok_in {K : Frag} : Ok2 K (fun x y H Q => (∃ (c : Nat) (z : Str), x = .str ⟨#[c]⟩ ∧ y = .str z ∧ Q (.bl (decide (c ∈ z.cps.toList))) H) ∨ rIn K false x y H Q) dIn := ok_in2 (neg := false)
theorem ok_nin {K : Frag} : Ok2 K (fun x y H Q => (∃ (c : Nat) (z : Str), x = .str ⟨#[c]⟩ ∧ y = .str z ∧ Q (.bl (!decide (c ∈ z.cps.toList))) H) ∨ rIn K true x y H Q) dNin := ok_in2 (neg := true)
theorem se_in {a b : Expr} {p q : XE} (ha : SE X W a p) (hb : SE X W b q) (hm : behindInMarks .In b = false := by rfl) : SE X W (.Compare a [.In] [b] pos) (eOp dIn p q) := se_cmp (opr_or op_in_sign op_in_seq) ok_in ha hb hm
theorem se_nin {a b : Expr} {p q : XE} (ha : SE X W a p) (hb : SE X W b q) (hm : behindInMarks .NotIn b = false := by rfl) : SE X W (.Compare a [.NotIn] [b] pos) (eOp dNin p q) := se_cmp (opr_or op_notIn_sign op_notIn_seq) ok_nin ha hb hm
theorem st_in {a b : Expr} {p q : XE} (ha : SE X W a p) (hb : SE X W b q) (hm : behindInMarks .In b = false := by rfl) : ST X W (.Compare a [.In] [b] pos) (tOf (eOp dIn p q)) := st_cmp (opr_or op_in_sign op_in_seq) ok_in ha hb hm
theorem st_nin {a b : Expr} {p q : XE} (ha : SE X W a p) (hb : SE X W b q) (hm : behindInMarks .NotIn b = false := by rfl) : ST X W (.Compare a [.NotIn] [b] pos) (tOf (eOp dNin p q)) := st_cmp (opr_or op_notIn_sign op_notIn_seq) ok_nin ha hb hm
/-! ### int(), str(), bit_length -/
def dInt : List D → Option D
  | [.int i] => some (.int i)
  | [.bool b] => some (.int (if b then 1 else 0))
  | _ => none
theorem ok_int {K : Frag} : OkC K (fun xs H Q => (∃ i, xs = [.int i] ∧ Q (.int i) H) ∨ ∃ k, xs = [.bl k] ∧ Q (.int (if k then 1 else 0)) H) dInt := by
  intro Z H xs ds d Q s D1 e k
  unfold dInt at e
  split at e
  · cases e
    obtain ⟨v, rfl, hv⟩ := dpa_1 D1
    cases dp_int hv
    exact .inl ⟨_, rfl, k _ Z H (Nw.refl s) (.int _)⟩
  · cases e
    obtain ⟨v, rfl, hv⟩ := dpa_1 D1
    cases dp_bool hv
    exact .inr ⟨_, rfl, k _ Z H (Nw.refl s) (.int _)⟩
  · cases e
theorem se_intC {a : Expr} {q : XA} {p : Pos} (hg : Gl X "int") (hm : X.mg "int" = none) (ha : SA X W [a] q) (he : starEach [a] X.env = (false, eval a X.env) :: starEach [] X.env := by rfl) (hpl : (backTo pos (starEach [] X.env)).any (·.1) = false := by rfl) : SE X W (.Call (.Name "int" p) [a] [] pos) (eCall dInt q) :=
  se_tCB ok_int (pe_callTy call_int1 hg hm (by decide +kernel) ha (by decide) (by decide) he hpl)
def dStr : List D → Option D
  | [.int i] => if i.natAbs.log2 < 1920 then some (.str (toString i)) else none
  | _ => none
theorem ok_str {K : Frag} : OkC K (fun xs H Q => ∃ i, xs = [.int i] ∧ i.natAbs.log2 < 1920 ∧ Q (.str (toString i)) H) dStr := by
  intro Z H xs ds d Q s D1 e k
  unfold dStr at e
  split at e
  · split at e
    · rename_i hl
      cases e
      obtain ⟨v, rfl, hv⟩ := dpa_1 D1
      cases dp_int hv
      exact ⟨_, rfl, hl, k _ Z H (Nw.refl s) (.str _)⟩
    · cases e
  · cases e
theorem se_strC {a : Expr} {q : XA} {p : Pos} (hg : Gl X "str") (hm : X.mg "str" = none) (ha : SA X W [a] q) (he : starEach [a] X.env = (false, eval a X.env) :: starEach [] X.env := by rfl) (hpl : (backTo pos (starEach [] X.env)).any (·.1) = false := by rfl) : SE X W (.Call (.Name "str" p) [a] [] pos) (eCall dStr q) :=
  se_tCB ok_str (pe_callTy call_str_int hg hm (by decide +kernel) ha (by decide) (by decide) he hpl)
def eBits (p : XE) : XE := fun e => (p e).bind fun d e1 => match d with
  | .int i => .ok (.int (Builtin.Int.intBits i : Nat)) e1
  | _ => .bad
theorem se_bits {o : Expr} {apos : Pos} {p : XE} (ho : SE X W o p) (hbase : attributeBase o "bit_length" X.env (eval o X.env) = eval o X.env := by rfl) (hline : (apos.endLine == pos.line) = true := by rfl) : SE X W (.Call (.Attribute o "bit_length" apos) [] [] pos) (eBits p) := by
  refine PE.imp (pe_bits ho hbase hline) fun σ H Q ⟨B, e, Z, R0, hq⟩ => ?_
  refine rg_bind R0 hq fun v1 Z1 e1 d1 H1 s1 R1 D1 h1 => ?_
  cases D1 with
  | int i => exact ⟨i, rfl, h1 _ Z1 H1 (Same.refl _) R1 (.int _)⟩
  | non => exact h1.elim
  | bl _ => exact h1.elim
  | str _ => exact h1.elim
  | lst _ _ => exact h1.elim
  | tup _ _ => exact h1.elim
/-! ### slices -/
def dSl : D → Option Int → Option Int → Option D
  | .list xs, lo, hi => some (.list (cutD xs lo hi))
  | .tuple xs, lo, hi => if HT.sIx xs.length 0 lo = 0 ∧ HT.sIx xs.length xs.length hi = xs.length then none else some (.tuple (cutD xs lo hi))
  | .str z, lo, hi => if z.length ≤ sizeLine then some (.str (cutS z lo hi)) else none
  | _, _, _ => none
theorem ok_sl {K : Frag} : OkS K (fun x lo hi H Q => (rSlL K x lo hi H Q ∨ rSlT K x lo hi H Q) ∨ ∃ z, x = .str z ∧ z.length ≤ sizeLine ∧ Q (.str (cutS z lo hi)) H) dSl := by
  intro Z H x c lo hi d Q s D1 e k
  unfold dSl at e
  split at e
  · cases e
    obtain ⟨a, ws, rfl, h1, h2⟩ := dp_list D1
    refine .inl (.inl ⟨a, ws, rfl, .inl (.inl (s _ _ h1)), fun p hp => ?_⟩)
    have n := Nw.new (o := .lst (cutV ws lo hi)) s hp
    exact k _ _ _ n (.lst upd_same (dpa_mono n.z (dpa_cut h2)))
  · split at e
    · cases e
    · rename_i hf
      cases e
      obtain ⟨a, ws, rfl, h1, h2⟩ := dp_tuple D1
      refine .inl (.inr ⟨a, ws, rfl, same_tup s h1, by rw [dpa_len h2]; exact hf, fun p hp => ?_⟩)
      have n := Nw.new (o := .tup (cutV ws lo hi)) s hp
      exact k _ _ _ n (.tup (.inl (.inl upd_same)) (dpa_mono n.z (dpa_cut h2)))
  · split at e
    · rename_i hl
      cases e
      cases dp_str D1
      exact .inr ⟨_, rfl, hl, k _ Z H (Nw.refl s) (.str _)⟩
    · cases e
  · cases e
theorem se_slice {a : Expr} {lo hi : Option Expr} {p2 : Pos} {p : XE} {l u : XO} (ha : SE X W a p) (hl : SO X W lo l) (hu : SO X W hi u) : SE X W (.Subscript a (.Slice lo hi none p2) pos) (eSl dSl p l u) :=
  se_sl ok_sl (pe_slice (.or (.or sl_list sl_tup) sl_str) ha hl hu)
/-! ### a text so many times -/
theorem op_mulS : OpR X (binaryOp .Mult) (fun x y H Q => ∃ z k, x = .str z ∧ y = .int k ∧ MulOk z k ∧ Q (.str (Txt.mul z k)) H) := by
  intro pins s σ H x y v u Q I rx ry h
  obtain ⟨z, k, rfl, rfl, hz, q⟩ := h
  obtain ⟨t, rfl⟩ := rx
  obtain ⟨t', rfl⟩ := ry
  exact SB.mul hz fun t' k' => ⟨.str _, H, I.tok _, ⟨_, rfl⟩, q⟩
def dMulS : D → D → Option D
  | .str z, .int k => if z.length ≤ 1000 ∧ -1000 ≤ k ∧ k ≤ 1000 then some (.str (Txt.mul z k)) else none
  | _, _ => none
theorem ok_mulS {K : Frag} : Ok2 K (fun x y H Q => ∃ z k, x = .str z ∧ y = .int k ∧ MulOk z k ∧ Q (.str (Txt.mul z k)) H) dMulS := by
  intro Z H x y d1 d2 d Q s D1 D2 e k
  unfold dMulS at e
  split at e
  · split at e
    · rename_i z i hc
      cases e
      cases dp_str D1
      cases dp_int D2
      exact ⟨z, i, rfl, rfl, mulOk_of 1000 1000 hc.1 (by omega) (by omega) (by decide) (by decide), k _ Z H (Nw.refl s) (.str _)⟩
    · cases e
  · cases e
theorem se_mulS {a b : Expr} {p q : XE} (ha : SE X W a p) (hb : SE X W b q) : SE X W (.BinOp a .Mult b pos) (eOp dMulS p q) := se_op op_mulS ok_mulS ha hb
/-! ### a raise that is never come to -/
def sBad : XS := fun _ => .bad
theorem ss_bad {st : Stmt} : SS X W st sBad := ⟨fun _ _ _ _ _ _ ⟨_, _, _, _, h⟩ => h.elim⟩
end G
set_option Elab.async false
set_option linter.all false
set_option maxRecDepth 100000
/-! enumerate of a text, of a list -/
namespace G
open PySem PySem.Spec PyProof.Rows L2
def ItES (z : Str) : It := ⟨fun i _ => i < z.cps.size, fun i H v H' => ∃ T c, v = .ref T ∧ H T = none ∧ H' = upd H T (.tup [.int (i : Nat), .str ⟨#[c]⟩]) ∧ z.cps[i]? = some c, fun i _ => i = z.cps.size⟩
theorem turn_enumS {P : Program} {w : World} {K : Frag} {elts : List Expr} {kk : Nat} {tpos : Pos} (e it : Addr) (z : Str) (t : Tok) :
    Turn P w K (.Tuple elts kk tpos) (ItES z) [e, it] e (fun i h => (∃ old, IsEnum h e it ((i : Nat) : Int) old) ∧ h.IsStrIter it (strIterType z) z t i ∧ e ≠ it) where
  mem := by simp
  obj := fun i h st b hb => by
    obtain ⟨⟨old, he⟩, ⟨o, ho, hc, hd⟩, _⟩ := st
    have e' : b = e ∨ b = it := by simpa using hb
    rcases e' with q | q
    · rw [q]; exact ⟨_, he, fun v q => nomatch q⟩
    · rw [q]; exact ⟨o, ho, fun v q => by rw [hd] at q; cases q⟩
  keep := fun i h h' st k => let ⟨⟨old, he⟩, ⟨o, ho, r⟩, hne⟩ := st; ⟨⟨old, k e (by simp) _ he⟩, ⟨o, k it (by simp) o ho, r⟩, hne⟩
  item := by
    intro X hP hw hK hc i pins s σ H E I hf st hg
    subst hP hw hK
    obtain ⟨⟨old, he⟩, hit, hne⟩ := st
    have hel : e < s.heap.objs.size := Heap.lt_size he
    have hil : it < s.heap.objs.size := by obtain ⟨_, q, _⟩ := hit; exact Heap.lt_size q
    refine wpAny_pyNext_enum_itemD (Draws.text (A := X.A.in1) (I.ok.hd hc) it z t) he hit hg hne (by simpa using hne) fun x h' tk hx ho hit' hT hsz hk => ?_
    obtain ⟨c, u, hcx, rfl⟩ := hx
    refine ⟨_, rfl, wpAny_letOwnedTupleGo_enum (s := { s with heap := h', toks := tk + 1 }) ho fun h'' he' sb => ?_⟩
    have hT2 : h''.get? s.heap.objs.size = some { cls := .type "tuple", data := .seq #[.int i tk, .str ⟨#[c]⟩ u] } := (sb.2 _ (Nat.ne_of_gt hel)).trans hT
    have new : ObjOk X.prog X.w (upd H s.heap.objs.size (.tup [.int (i : Nat), .str ⟨#[c]⟩])) h'' s.heap.objs.size (.tup [.int (i : Nat), .str ⟨#[c]⟩]) :=
      ⟨by show 2 ≤ sizeLine; decide, [.int i tk, .str ⟨#[c]⟩ u], .cons ⟨_, rfl⟩ (.cons ⟨_, rfl⟩ .nil), ⟨_, hT2, rfl, _, rfl⟩⟩
    have I1 : Inv X pins σ (upd H s.heap.objs.size (.tup [.int (i : Nat), .str ⟨#[c]⟩])) { s with heap := h'', toks := tk + 1 } :=
      I.turnedNew (ch := [e, it]) (fun b ob hb q => (sb.2 b (fun z => hb (by simp [z]))).trans (hk b ob (fun z => hb (by simp [z])) (fun z => hb (by simp [z])) q)) hf (Nat.le_refl _) new
    refine ⟨.ref s.heap.objs.size, _, I1, rfl, ⟨_, c, rfl, I.hok.fresh (Nat.le_refl _), rfl, hcx⟩, ⟨⟨.str ⟨#[c]⟩ u, ?_⟩, ?_, hne⟩, fun b hb => ?_⟩
    · have e1 : ((i + 1 : Nat) : Int) = (i : Int) + 1 := by omega
      rw [e1]; exact he'
    · obtain ⟨o, ho2, r⟩ := hit'
      exact ⟨o, (sb.2 it (Ne.symm hne)).trans ho2, r⟩
    · have hb' : b < s.heap.objs.size := by
        have e' : b = e ∨ b = it := by simpa using hb
        rcases e' with z | z
        · rw [z]; exact hel
        · rw [z]; exact hil
      rw [upd_ne (Nat.ne_of_lt hb')]
      exact (hf b hb).1
  done := by
    intro X hP hw hK hc i pins s σ H E I hf st hg
    subst hP hw hK
    obtain ⟨⟨old, he⟩, hit, hne⟩ := st
    have hg : i = z.cps.size := hg
    subst hg
    obtain ⟨f0, f1, f2, f3, f4, f5⟩ := hf it (by simp)
    exact wpAny_pyNext_enum_endD (Draws.text (A := X.A.in1) (I.ok.hd hc) it z t) he hit fun h' eb => ⟨rfl, I.turned (t' := s.toks) (fun b o hb q => eb b o hb q) f0 f1 f3 f4 f5⟩
  self := fun A i s Q E st h => let ⟨⟨_, he⟩, _⟩ := st; wpAny_pyIter_enum he h
def enumD : Nat → List D → List D
  | _, [] => []
  | i, d :: ds => .tuple [.int (i : Nat), d] :: enumD (i + 1) ds
theorem enumD_len : ∀ (i : Nat) (ds : List D), (enumD i ds).length = ds.length
  | _, [] => rfl
  | i, _ :: ds => by simp [enumD, enumD_len (i + 1) ds]
theorem enumD_get : ∀ (ds : List D) (i k : Nat) (d : D), ds[k]? = some d → (enumD i ds)[k]? = some (.tuple [.int ((i + k : Nat) : Int), d])
  | [], _, _, _, h => by simp at h
  | _ :: _, i, 0, _, h => by cases h; rfl
  | _ :: ds, i, k + 1, d, h => by
    have := enumD_get ds (i + 1) k d (by simpa using h)
    have e : i + 1 + k = i + (k + 1) := by omega
    rw [e] at this
    simpa [enumD] using this
theorem wk_enumS {K : Frag} {Z : Hp} {z : Str} : Wk K Z (ItES z) (enumD 0 (z.cps.toList.map fun c => .str ⟨#[c]⟩)) := by
  have hl : (enumD 0 (z.cps.toList.map fun c => PyData.str ⟨#[c]⟩)).length = z.cps.size := by rw [enumD_len]; simp
  refine ⟨fun i H hi s => by rw [hl] at hi; exact hi, fun H s => hl, fun i H x H' B e σ Z1 hi s R hy => ?_⟩
  obtain ⟨T, c, rfl, hT, rfl, hc⟩ := hy
  obtain ⟨R2, s2⟩ := R.new (o := .tup [.int (i : Nat), .str ⟨#[c]⟩]) hT
  refine ⟨_, .tuple [.int (i : Nat), .str ⟨#[c]⟩], s2, R2, ?_, .tup (.inl (.inl upd_same)) (.cons (.int _) (.cons (.str _) .nil))⟩
  have := enumD_get (z.cps.toList.map fun c => PyData.str ⟨#[c]⟩) 0 i (.str ⟨#[c]⟩) (by rw [List.getElem?_map, Array.getElem?_toList, hc]; rfl)
  rwa [Nat.zero_add] at this
def gEnumS : List D → Option (List D)
  | [.str z] => some (enumD 0 (z.cps.toList.map fun c => .str ⟨#[c]⟩))
  | _ => none
theorem si_enumS {X : Cx} {W : WX} {a : Expr} {q : XA} {p pos tpos : Pos} {elts : List Expr} {kk : Nat} (hg : Gl X "enumerate") (hm : X.mg "enumerate" = none) (ha : SA X W [a] q)
    (hs : starEach [a] X.env = [(false, eval a X.env)] := by rfl) : SI X W (.Tuple elts kk tpos) (.Call (.Name "enumerate" p) [a] [] pos) (iArgs gEnumS q) := by
  refine ⟨fun pins s σ H R I ⟨B, e, Z, R0, hq⟩ => ?_⟩
  have h1 : RA X.K X.mg W q σ H fun vs H1 => ∃ z, vs = [.str z] ∧ R (ItES z) H1 := by
    refine rg_bind R0 hq fun v1 Z1 e1 d1 H1 s1 R1 D1 h1 => ?_
    unfold gEnumS at h1
    split at h1
    · obtain ⟨v, rfl, hv⟩ := dpa_1 D1
      cases dp_str hv
      exact ⟨_, rfl, h1 _ Z1 H1 (Same.refl _) R1 wk_enumS⟩
    · exact h1.elim
  refine Call_ (ld_blt I hg hm boot_enumerate (PyProof.Rows.callWith_type1 (thn (ha.run pos pins s σ H _ I h1) fun us s1 ⟨vs, H1, I1, r1, q1⟩ => ?_) hs rfl))
  obtain ⟨z, ex, q⟩ := q1
  subst ex
  obtain ⟨u, rfl, t, rfl⟩ := vals1 r1
  refine call_enumerate_str fun h' he hit hsz hk => wpAny_pyIter_enum he ?_
  have I2 : Inv X pins σ H1 { s1 with heap := h' } := I1.kept (t' := s1.toks) hk
  refine ⟨s1.heap.objs.size + 1, [s1.heap.objs.size + 1, s1.heap.objs.size], _, _, H1, rfl, I2, turn_enumS (s1.heap.objs.size + 1) s1.heap.objs.size z t, ⟨⟨.none, he⟩, hit, Nat.succ_ne_self _⟩, fun b hb => ?_, q⟩
  have e' : b = s1.heap.objs.size + 1 ∨ b = s1.heap.objs.size := by simpa using hb
  have hle : s1.heap.objs.size ≤ b := by
    rcases e' with z | z
    · rw [z]; exact Nat.le_add_right _ _
    · rw [z]; exact Nat.le_refl _
  exact I1.fpOk hle (I1.hok.fresh hle)
/-! ### a tuple of the module, xs[::-1] -/
section
variable {X : Cx} {W : WX} {pos : Pos}
/-- at a stands for ever the tuple ds -/
def KT (K : Frag) (a : Addr) (ds : List D) : Prop := ∀ Z, Dq K Z (.ref a) (.tuple ds)
theorem se_kt {x : Str} {a : Addr} {ds : List D} (hg : Gl X x) (hm : X.mg x = some (.ref a)) (hk : KT X.K a ds) (hdb : (x == ("__debug__" : Str)) = false := by decide) : SE X W (.Name x pos) (eC (.tuple ds)) :=
  PE.imp (pe_glob (v := .ref a) hg hm rfl (hd := hdb)) fun σ H Q ⟨B, e, Z, R0, hq⟩ => hq _ Z H (Same.refl Z) R0 (hk Z)
inductive KVs (K : Frag) : List Value → List D → Prop where
  | nil : KVs K [] []
  | int {i : Int} {t : Tok} {us : List Value} {ds : List D} : KVs K us ds → KVs K (.int i t :: us) (.int i :: ds)
  | str {z : Str} {t : Tok} {us : List Value} {ds : List D} : KVs K us ds → KVs K (.str z t :: us) (.str z :: ds)
theorem kvs_of {K : Frag} : ∀ {us : List Value} {ds : List D}, KVs K us ds → ∃ vs, Vals vs us ∧ ∀ Z, DqAll K Z vs ds
  | _, _, .nil => ⟨[], .nil, fun _ => .nil⟩
  | _, _, .int h => by
    obtain ⟨vs, h1, h2⟩ := kvs_of h
    exact ⟨.int _ :: vs, .cons ⟨_, rfl⟩ h1, fun Z => .cons (.int _) (h2 Z)⟩
  | _, _, .str h => by
    obtain ⟨vs, h1, h2⟩ := kvs_of h
    exact ⟨.str _ :: vs, .cons ⟨_, rfl⟩ h1, fun Z => .cons (.str _) (h2 Z)⟩
theorem kt_mk {K : Frag} {a : Addr} {o : Option Addr} {its : Array Value} {n : Nat} {sl : Array (Option Value)} {ds : List D} (l : K.lookup a = some ⟨.type "tuple", o, .seq its n, sl⟩) (h : KVs K its.toList ds) (hl : its.size ≤ sizeLine) : KT K a ds := fun Z => by
  obtain ⟨vs, h1, h2⟩ := kvs_of h
  exact .tup (.inr ⟨_, its, n, l, rfl, rfl, hl, h1⟩) (h2 Z)
def eRev (p : XE) : XE := fun e => (p e).bind fun d e1 => match d with
  | .list xs => .ok (.list xs.reverse) e1
  | _ => .bad
theorem se_rev {a : Expr} {k : Nat} {p1 p2 p3 : Pos} {p : XE} (ha : SE X W a p) : SE X W (.Subscript a (.Slice none none (some (.UnaryOp .USub (.Constant (.int 1) k p1) p2)) p3) pos) (eRev p) := by
  refine PE.imp (pe_revL ha) fun σ H Q ⟨B, e, Z, R0, hq⟩ => ?_
  refine rg_bind R0 hq fun v1 Z1 e1 d1 H1 s1 R1 D1 h1 => ?_
  cases D1 with
  | @lst aa xs dd q a =>
    refine ⟨_, _, rfl, .inl (.inl (R1.sub _ _ q)), fun p hp => ?_⟩
    have n := Nw.new (o := .lst xs.reverse) R1.sub hp
    exact h1 _ _ _ n.z (R1.nw n) (.lst upd_same (dpa_mono n.z (dpa_rev a)))
  | non => exact h1.elim
  | bl _ => exact h1.elim
  | int _ => exact h1.elim
  | str _ => exact h1.elim
  | tup _ _ => exact h1.elim
end
/-! ### a comprehension within a comprehension -/
def relSc (inner outer : Scope) : Scope := { inner with names := inner.names.map fun (n, k) => if (k == NameKind.free && outer.kind == .function && outer.names.lookup n == some .cell) then (n, NameKind.cell) else (n, k) }
theorem blkOk_in {N : List Str} {inner scope outer : Scope} {own : List (Str × Nat)} {cl : List (Str × Addr)} {C : Addr} {env : Env} (h : blkC N (relSc inner outer) scope own = true) (he : relabel inner env = relSc inner outer := by rfl) : BlkOk N (compEnvC inner cl C env).scope scope own := by
  show BlkOk N (relabel inner env) scope own
  rw [he]
  exact blkOk_by h
/-! ### a new list, so many times -/
section
variable {X : Cx} {W : WX} {pos : Pos}
def nRep (p q : XE) : XI := fun e => (p e).bind fun x e1 => (q e1).bind fun y e2 => match x, y with
  | .list xs, .int k => if (-(2 ^ 63) ≤ k ∧ k < 2 ^ 63) ∧ xs.length * k.toNat ≤ sizeLine then .ok (List.replicate k.toNat xs).flatten e2 else .bad
  | _, _ => .bad
theorem sn_rep {a b : Expr} {p q : XE} (ha : SE X W a p) (hb : SE X W b q) : SN X W (.BinOp a .Mult b pos) (nRep p q) := by
  refine PE.imp (pe_op op_rep ha hb) fun σ H Q ⟨B, e, Z, R0, hq⟩ => ?_
  refine rn_bind R0 hq fun v1 Z1 e1 d1 H1 s1 R1 D1 h1 => ?_
  refine rn_bind R1 h1 fun v2 Z2 e2 d2 H2 s2 R2 D2 h2 => ?_
  split at h2
  · split at h2
    · rename_i hc
      obtain ⟨a, ws, rfl, g1, g2⟩ := dp_list (dp_mono s2 D1)
      cases dp_int D2
      exact ⟨a, _, ws, rfl, rfl, R2.sub _ _ g1, hc.1.1, hc.1.2, by rw [dpa_len g2]; exact hc.2, pgf_new R2 (dpa_rep g2 _) h2⟩
    · exact h2.elim
  · exact h2.elim
theorem nl_rep {p q : XE} {e e1 e2 : En} {xs : List D} {k : Int} (h1 : p e = .ok (.list xs) e1) (h2 : q e1 = .ok (.int k) e2) (h3 : (-(2 ^ 63) ≤ k ∧ k < 2 ^ 63) ∧ xs.length * k.toNat ≤ sizeLine) : nRep p q e = .ok (List.replicate k.toNat xs).flatten e2 := by
  unfold nRep
  rw [h1]
  show (q e1).bind _ = _
  rw [h2]
  exact if_pos h3
end
end G
set_option Elab.async false
set_option linter.all false
set_option maxRecDepth 100000
/-! list(zip(a, b)) of two lists -/
namespace G
open PySem PySem.Spec PyProof.Rows L2
theorem lz_no_len : typeLookup (.type "zip") "__len__" = pure none := am_miss_of_fast (by decide +kernel)
theorem lz_no_hint : typeLookup (.type "zip") "__length_hint__" = pure none := am_miss_of_fast (by decide +kernel)
/-- the parts of a zip over lists, at turn i, while the list S is filled -/
structure Lz (z TI TO i1 i2 l1 l2 S : Addr) (us1 us2 : Array Value) (i : Nat) (h : Heap) : Prop where
  to : ∃ o, h.get? TO = some o
  ti : IsPair h TI (.ref i1) (.ref i2)
  it1 : h.IsListIter i1 l1 i
  it2 : h.IsListIter i2 l2 i
  ls1 : h.IsList l1 us1
  ls2 : h.IsList l2 us2
  zs : (IsZip h z TI TO .none ∧ ∃ a b, IsPair h TO a b) ∨ ∃ T f o, IsZipHeld h z TI TO T f ∧ h.get? T = some o ∧ T ≠ z ∧ T ≠ i1 ∧ T ≠ i2 ∧ T ≠ S
section
variable {X : Cx} {W : WX} {pins : List (Addr × Obj)} {σ : L2.St} {B : Bs} {e : En} {Z0 : Hp} {z TI TO i1 i2 l1 l2 S : Addr} {us1 us2 : Array Value} {xs ys : List V} {as bs : List D}
/-- how it stands at turn i -/
structure Lj (X : Cx) (pins : List (Addr × Obj)) (σ : L2.St) (B : Bs) (e : En) (Z0 : Hp) (z TI TO i1 i2 l1 l2 S : Addr) (us1 us2 : Array Value) (xs ys : List V) (as bs : List D) (i : Nat) (s : Shared) : Prop where
  ex : ∃ Z H vs, Same Z0 Z ∧ Rl X.K B e σ Z H ∧ Inv X pins σ H s ∧ H S = some (.lst vs) ∧ Z S = none ∧ (B.H S = none ∨ B.W S) ∧ ¬ Owns e σ S ∧ DqAll X.K Z vs ((zipD as bs).take i) ∧ DqAll X.K Z xs as ∧ DqAll X.K Z ys bs ∧
    (∀ b ∈ [z, TO, i1, i2], FpOk X pins H b)
  lz : Lz z TI TO i1 i2 l1 l2 S us1 us2 i s.heap
structure Ld (z TI TO i1 i2 l1 l2 S : Addr) : Prop where
  ap : ZipApart z TI TO i1 i2 l1 l2
  ne : S ≠ z ∧ S ≠ TI ∧ S ≠ TO ∧ S ≠ i1 ∧ S ≠ i2 ∧ S ≠ l1 ∧ S ≠ l2
theorem vals_get {vs : List V} {us : List Value} (h : Vals vs us) {i : Nat} {u : Value} (q : us[i]? = some u) : ∃ v, vs[i]? = some v ∧ RelV v u := by
  induction h generalizing i with
  | nil => simp at q
  | cons a r ih =>
    cases i with
    | zero => exact ⟨_, rfl, by simp at q; subst q; exact a⟩
    | succ i => obtain ⟨v, h1, h2⟩ := ih (i := i) (by simpa using q); exact ⟨v, by simpa using h1, h2⟩
theorem lz_step (D : Ld z TI TO i1 i2 l1 l2 S) (r1 : Vals xs us1.toList) (r2 : Vals ys us2.toList) (hl1 : xs.length = as.length) (hl2 : ys.length = bs.length) {i : Nat} {s : Shared} {E : Value → Shared → Prop} {Q : Option Value → Shared → Prop} (hi : i < min as.length bs.length) (hsz : i < sizeLine)
    (J : Lj X pins σ B e Z0 z TI TO i1 i2 l1 l2 S us1 us2 xs ys as bs i s)
    (hQ : ∀ T h' acc c, h'.get? S = some { cls := .type "list", dict := none, data := .seq acc c, slots := #[] } → acc.size = i → (∀ h'' c', (∀ b o, b ≠ S → h'.get? b = some o → h''.get? b = some o) → h''.get? S = some { cls := .type "list", dict := none, data := .seq (acc.push (.ref T)) c', slots := #[] } →
      Lj X pins σ B e Z0 z TI TO i1 i2 l1 l2 S us1 us2 xs ys as bs (i + 1) { s with heap := h'' }) → Q (some (.ref T)) { s with heap := h' }) {A : Around} : wpAny (model X.prog X.w) A (pyNext (.ref z)) Q E s := by
  obtain ⟨⟨Z, H, vs, sz, R, I, hS, zS, fS, oS, dv, d1, d2, hf⟩, ⟨⟨oTO, hTO0⟩, hTI, h1, h2, g1, g2, hz⟩⟩ := J
  have e1 : us1.toList.length = as.length := by rw [← r1.length, hl1]
  have e2 : us2.toList.length = bs.length := by rw [← r2.length, hl2]
  have b1 : i < us1.size := by rw [← Array.length_toList, e1]; omega
  have b2 : i < us2.size := by rw [← Array.length_toList, e2]; omega
  have x1 := Array.getElem?_eq_getElem b1
  have x2 := Array.getElem?_eq_getElem b2
  obtain ⟨v1, q1, rv1⟩ := vals_get r1 (i := i) (u := us1[i]) (by rw [Array.getElem?_toList]; exact x1)
  obtain ⟨v2, q2, rv2⟩ := vals_get r2 (i := i) (u := us2[i]) (by rw [Array.getElem?_toList]; exact x2)
  obtain ⟨a, qa, da⟩ := dpa_get' d1 q1
  obtain ⟨b, qb, db⟩ := dpa_get' d2 q2
  obtain ⟨hlen, us, c, ru, hu⟩ := I.hok S _ hS
  have lenv : vs.length = i := by rw [dpa_len dv, List.length_take, zipD_len]; omega
  have lt : ∀ {c : Addr} {o : Obj}, s.heap.get? c = some o → s.heap.objs.size ≠ c := fun e => Nat.ne_of_gt (Heap.lt_size e)
  have nS : s.heap.objs.size ≠ S := lt hu
  have n1 : s.heap.objs.size ≠ i1 := let ⟨_, e, _⟩ := h1; lt e
  have n2 : s.heap.objs.size ≠ i2 := let ⟨_, e, _⟩ := h2; lt e
  have zT : s.heap.objs.size ≠ z := by rcases hz with ⟨hz, _⟩ | ⟨_, _, _, hz, _⟩ <;> exact lt hz
  have hnT : H s.heap.objs.size = none := I.hok.fresh (Nat.le_refl _)
  -- both ways end alike
  have fin : ∀ h' f, IsZipHeld h' z TI TO s.heap.objs.size f ∨ (∃ T o, IsZipHeld h' z TI TO T f ∧ h'.get? T = some o ∧ T ≠ z ∧ T ≠ i1 ∧ T ≠ i2 ∧ T ≠ S) → h'.IsListIter i1 l1 (i + 1) → h'.IsListIter i2 l2 (i + 1) → IsPair h' s.heap.objs.size us1[i] us2[i] →
      (∀ c o, c ≠ z → c ≠ TO → c ≠ i1 → c ≠ i2 → s.heap.get? c = some o → h'.get? c = some o) → (∃ o, h'.get? TO = some o) → Q (some (.ref s.heap.objs.size)) { s with heap := h' } := fun h' f a1 a2 a3 a4 hk hto => by
    have kTO : ∀ h'' : Heap, (∀ o, h'.get? TO = some o → h''.get? TO = some o) → ∃ o, h''.get? TO = some o := fun h'' k => let ⟨o, q⟩ := hto; ⟨o, k o q⟩
    have hu' : h'.get? S = some { cls := .type "list", dict := none, data := .seq us.toArray c, slots := #[] } := by
      have hu2 : s.heap.get? S = some { cls := .type "list", dict := none, data := .seq us.toArray c, slots := #[] } := by rw [hu]
      exact hk _ _ D.ne.1 D.ne.2.2.1 D.ne.2.2.2.1 D.ne.2.2.2.2.1 hu2
    refine hQ _ h' us.toArray c hu' (by simp [← ru.length, lenv]) fun h'' c' k2 hS'' => ?_
    have k3 : ∀ c o, c ≠ z → c ≠ TO → c ≠ i1 → c ≠ i2 → c ≠ S → s.heap.get? c = some o → h''.get? c = some o := fun c o c1 c2 c3 c4 c5 q => k2 c o c5 (hk c o c1 c2 c3 c4 q)
    have hT2 : h''.get? s.heap.objs.size = some { cls := .type "tuple", data := .seq #[us1[i], us2[i]] } := k2 _ _ nS a4
    have newT : ObjOk X.prog X.w (upd H s.heap.objs.size (.tup [v1, v2])) h' s.heap.objs.size (.tup [v1, v2]) := ⟨by show 2 ≤ sizeLine; decide, [us1[i], us2[i]], .cons rv1 (.cons rv2 .nil), ⟨_, a4, rfl, _, rfl⟩⟩
    have I1 : Inv X pins σ (upd H s.heap.objs.size (.tup [v1, v2])) { s with heap := h' } :=
      I.turnedNew (t' := s.toks) (ch := [z, TO, i1, i2]) (fun c o hb q => hk c o (fun q' => hb (by simp [q'])) (fun q' => hb (by simp [q'])) (fun q' => hb (by simp [q'])) (fun q' => hb (by simp [q'])) q) hf (Nat.le_refl _) newT
    have hS1 : upd H s.heap.objs.size (.tup [v1, v2]) S = some (.lst vs) := by rw [upd_ne (Ne.symm nS)]; exact hS
    have newS : ObjOk X.prog X.w (upd (upd H s.heap.objs.size (.tup [v1, v2])) S (.lst (vs ++ [.ref s.heap.objs.size]))) h'' S (.lst (vs ++ [.ref s.heap.objs.size])) := by
      refine ⟨by rw [List.length_append, lenv]; exact hsz, us ++ [.ref s.heap.objs.size], c', ru.append (.cons (show RelV (.ref s.heap.objs.size) (.ref s.heap.objs.size) from rfl) .nil), ?_⟩
      rw [hS'']
      simp
    have I2 : Inv X pins σ (upd (upd H s.heap.objs.size (.tup [v1, v2])) S (.lst (vs ++ [.ref s.heap.objs.size]))) { s with heap := h'' } :=
      Inv.write (s := { s with heap := h' }) (t' := s.toks) I1 (by rw [hS1]; trivial) (.inl rfl) (fun b u hb q => k2 b u hb q) ⟨_, hS''⟩ newS
    obtain ⟨R1, s1⟩ := R.new (o := .tup [v1, v2]) hnT
    have zS1 : upd Z s.heap.objs.size (.tup [v1, v2]) S = none := by rw [upd_ne (Ne.symm nS)]; exact zS
    have R2 := R1.wr (o := .lst (vs ++ [.ref s.heap.objs.size])) zS1 fS oS
    have dT : Dq X.K (upd Z s.heap.objs.size (.tup [v1, v2])) (.ref s.heap.objs.size) (.tuple [a, b]) := .tup (.inl (.inl upd_same)) (.cons (dp_mono s1 da) (.cons (dp_mono s1 db) .nil))
    refine ⟨⟨_, _, vs ++ [.ref s.heap.objs.size], sz.trans s1, R2, I2, upd_same, zS1, fS, oS, ?_, dpa_mono s1 d1, dpa_mono s1 d2, fun b hb => ?_⟩, ⟨?_, ?_, ?_, ?_, ?_, ?_, ?_⟩⟩
    · have et : (zipD as bs).take (i + 1) = (zipD as bs).take i ++ [.tuple [a, b]] := by
        have hg := zipD_get as bs i a b qa qb
        have hlt : i < (zipD as bs).length := (List.getElem?_eq_some_iff.mp hg).1
        rw [List.take_succ, hg]; rfl
      rw [et]
      exact dpa_app (dpa_mono s1 dv) (.cons dT .nil)
    · have q := hf b hb
      have nb : b ≠ s.heap.objs.size := by
        have : ∃ o, s.heap.get? b = some o := by
          simp only [List.mem_cons, List.not_mem_nil, or_false] at hb
          rcases hb with rfl | rfl | rfl | rfl
          · rcases hz with ⟨hz, _⟩ | ⟨_, _, _, hz, _⟩ <;> exact ⟨_, hz⟩
          · exact ⟨_, hTO0⟩
          · obtain ⟨_, q, _⟩ := h1; exact ⟨_, q⟩
          · obtain ⟨_, q, _⟩ := h2; exact ⟨_, q⟩
        obtain ⟨o, q⟩ := this
        exact Nat.ne_of_lt (Heap.lt_size q)
      have nS2 : b ≠ S := by
        obtain ⟨m1, m2, m3, m4, m5, _⟩ := D.ne
        simp only [List.mem_cons, List.not_mem_nil, or_false] at hb
        rcases hb with rfl | rfl | rfl | rfl
        · exact m1.symm
        · exact m3.symm
        · exact m4.symm
        · exact m5.symm
      exact ⟨by rw [upd_ne nS2, upd_ne nb]; exact q.1, q.2⟩
    · obtain ⟨m1, m2, m3, m4, m5, _⟩ := D.ne
      exact kTO h'' fun o q => k2 _ o m3.symm q
    · exact k3 _ _ D.ap.TIz D.ap.TITO D.ap.TIi1 D.ap.TIi2 D.ne.2.1.symm hTI
    · exact a2.at fun o q => k2 _ o D.ne.2.2.2.1.symm q
    · exact a3.at fun o q => k2 _ o D.ne.2.2.2.2.1.symm q
    · exact g1.at fun o q => k3 _ o D.ap.l1z D.ap.l1TO D.ap.l1i1 D.ap.l1i2 D.ne.2.2.2.2.2.1.symm q
    · exact g2.at fun o q => k3 _ o D.ap.l2z D.ap.l2TO D.ap.l2i1 D.ap.l2i2 D.ne.2.2.2.2.2.2.symm q
    · rcases a1 with a1 | ⟨T, o, a1, t0, t1, t2, t3, t4⟩
      · exact .inr ⟨_, f, _, k2 _ _ D.ne.1.symm a1, hT2, zT, n1, n2, nS⟩
      · exact .inr ⟨T, f, o, k2 _ _ D.ne.1.symm a1, k2 _ _ t4 t0, t1, t2, t3, t4⟩
  rcases hz with ⟨hz, a', b', hTO⟩ | ⟨T, f, o, hz, hT, t1, t2, t3, t4⟩
  · refine wpAny_pyNext_zip_item D.ap hz hTI hTO h1 h2 g1 g2 x1 x2 fun h' a1 a2 a3 a4 a5 a6 hk => ?_
    exact fin h' false (.inl a1) a3 a4 a5 hk ⟨_, a2⟩
  · refine wpAny_pyNext_zip_item_held D.ap hz hT hTI h1 h2 g1 g2 x1 x2 fun h' a1 a3 a4 a5 a6 hk => ?_
    exact fin h' true (.inr ⟨T, o, a1, hk _ _ t1 t2 t3 hT, t1, t2, t3, t4⟩) a3 a4 a5 (fun c o c1 _ c3 c4 q => hk c o c1 c3 c4 q) ⟨_, hk _ _ D.ap.TOz D.ap.TOi1 D.ap.TOi2 hTO0⟩
theorem lz_end (D : Ld z TI TO i1 i2 l1 l2 S) (r1 : Vals xs us1.toList) (r2 : Vals ys us2.toList) (hl1 : xs.length = as.length) (hl2 : ys.length = bs.length) {s : Shared} {E : Value → Shared → Prop} {Q : Option Value → Shared → Prop} {A : Around} (hh : A.handled = none)
    (J : Lj X pins σ B e Z0 z TI TO i1 i2 l1 l2 S us1 us2 xs ys as bs (min as.length bs.length) s)
    (hQ : ∀ h' Z H vs, Same Z0 Z → Rl X.K B e σ Z H → Inv X pins σ H { s with heap := h' } → H S = some (.lst vs) → Z S = none → (B.H S = none ∨ B.W S) → ¬ Owns e σ S → DqAll X.K Z vs (zipD as bs) → Q none { s with heap := h' }) :
    wpAny (model X.prog X.w) A (pyNext (.ref z)) Q E s := by
  obtain ⟨⟨Z, H, vs, sz, R, I, hS, zS, fS, oS, dv, d1, d2, hf⟩, ⟨_, hTI, h1, h2, g1, g2, hz⟩⟩ := J
  rw [List.take_of_length_le (by rw [zipD_len]; exact Nat.le_refl _)] at dv
  have e1 : us1.size = as.length := by rw [← Array.length_toList, ← r1.length, hl1]
  have e2 : us2.size = bs.length := by rw [← Array.length_toList, ← r2.length, hl2]
  have hend : us1[min as.length bs.length]? = none ∨ us2[min as.length bs.length]? = none := by
    rcases Nat.le_total as.length bs.length with h | h
    · exact .inl (Array.getElem?_eq_none (by omega))
    · exact .inr (Array.getElem?_eq_none (by omega))
  have fin : ∀ h' : Heap, (∀ c o, c ≠ z → c ≠ TO → c ≠ i1 → c ≠ i2 → s.heap.get? c = some o → h'.get? c = some o) → Q none { s with heap := h' } := fun h' hk =>
    hQ h' Z H vs sz R (I.turnedL (t' := s.toks) (ch := [z, TO, i1, i2]) (fun c o hb q => hk c o (fun q' => hb (by simp [q'])) (fun q' => hb (by simp [q'])) (fun q' => hb (by simp [q'])) (fun q' => hb (by simp [q'])) q) hf) hS zS fS oS dv
  rcases hz with ⟨hz, a', b', hTO⟩ | ⟨T, f, o, hz, hT, _⟩
  · exact wpAny_pyNext_zip_end hh D.ap hz hTI hTO h1 h2 g1 g2 hend fun h' hk => fin h' hk
  · exact wpAny_pyNext_zip_end_held hh D.ap hz hT hTI h1 h2 g1 g2 hend fun h' hk => fin h' fun c o c1 _ c3 c4 q => hk c o c1 c3 c4 q
/-- the list is filled -/
theorem lz_fill (D : Ld z TI TO i1 i2 l1 l2 S) (r1 : Vals xs us1.toList) (r2 : Vals ys us2.toList) (hl1 : xs.length = as.length) (hl2 : ys.length = bs.length) (hn : min as.length bs.length ≤ sizeLine) {A : Around} (hh : A.handled = none) {Rr : Result → Shared → Prop}
    (hR : ∀ s' Z H vs, Same Z0 Z → Rl X.K B e σ Z H → Inv X pins σ H s' → H S = some (.lst vs) → Z S = none → (B.H S = none ∨ B.W S) → ¬ Owns e σ S → DqAll X.K Z vs (zipD as bs) → Rr (.ok (.ret .none)) s') :
    ∀ (k i : Nat) (s : Shared), i + k = min as.length bs.length → Lj X pins σ B e Z0 z TI TO i1 i2 l1 l2 S us1 us2 xs ys as bs i s → codeAny (model X.prog X.w) A (.builtin "list.extend.loop" ⟨[.ref S, .ref z, .none], []⟩) Rr s := by
  intro k
  induction k with
  | zero =>
    intro i s hi J
    refine codeAny_builtin F.entry_extend_loop ?_
    rw [Around.under_plainId F.plain_extend_loop _, show i = min as.length bs.length by omega] at *
    exact wpAny_bind (lz_end (A := A.in1) D r1 r2 hl1 hl2 hh J fun h' Z H vs q1 q2 q3 q4 q5 q6 q7 q8 => wpAny_pure (hR _ Z H vs q1 q2 q3 q4 q5 q6 q7 q8))
  | succ k ih =>
    intro i s hi J
    refine codeAny_builtin F.entry_extend_loop ?_
    rw [Around.under_plainId F.plain_extend_loop _]
    refine wpAny_bind (lz_step (A := A.in1) D r1 r2 hl1 hl2 (by omega) (by omega) J fun T h' acc c hS ha hJ => wpAny_bind ?_)
    refine wpAny_updateSeq (s := { s with heap := h' }) hS rfl (wpAny_pure ⟨plainId_quiet F.plain_extend_loop _, ih (i + 1) _ (by omega) (hJ _ _ (fun b o hb q => (Heap.get?_update_other _ _ (Ne.symm hb)).trans q) (Heap.get?_update_self _ hS rfl))⟩) (by omega) ?_
    show (acc.push (Value.ref T)).size ≤ sizeLine + 1
    rw [Array.size_push]
    omega
theorem nn {a b : Nat} (h : a < b) : a ≠ b := Nat.ne_of_lt h
def gLZ : List D → Option (List D)
  | [.list as, .list bs] => if min as.length bs.length ≤ sizeLine then some (zipD as bs) else none
  | _ => none
theorem gLZ_of {ds xs : List D} (h : gLZ ds = some xs) : ∃ as bs, ds = [.list as, .list bs] ∧ min as.length bs.length ≤ sizeLine ∧ xs = zipD as bs := by
  unfold gLZ at h
  split at h
  · split at h
    · cases h; exact ⟨_, _, rfl, by assumption, rfl⟩
    · cases h
  · cases h
theorem sn_listZip {a b : Expr} {q : XA} {p p2 pos pos2 : Pos} (hc : X.calm = true) (hg : Gl X "list") (hm : X.mg "list" = none) (hg2 : Gl X "zip") (hm2 : X.mg "zip" = none) (ha : SA X W [a, b] q)
    (hs : starEach [a, b] X.env = (false, eval a X.env) :: starEach [b] X.env := by rfl) (hpl : (backTo pos2 (starEach [b] X.env)).any (·.1) = false := by rfl)
    (he : starEach [.Call (.Name "zip" p2) [a, b] [] pos2] X.env = (false, eval (.Call (.Name "zip" p2) [a, b] [] pos2) X.env) :: starEach [] X.env := by rfl) :
    SN X W (.Call (.Name "list" p) [.Call (.Name "zip" p2) [a, b] [] pos2] [] pos) (nCall gLZ q) := by
  refine ⟨fun pins s σ H Q I ⟨B, e, Z, R0, hq⟩ => ?_⟩
  have h1 : RA X.K X.mg W q σ H fun vs H1 => ∃ l1 l2 xs ys as bs B e Z1, vs = [.ref l1, .ref l2] ∧ Rl X.K B e σ Z1 H1 ∧ Z1 l1 = some (.lst xs) ∧ Z1 l2 = some (.lst ys) ∧ DqAll X.K Z1 xs as ∧ DqAll X.K Z1 ys bs ∧ min as.length bs.length ≤ sizeLine ∧ PgF X.K X.mg W B σ Z1 (R.ok (zipD as bs) e) Q := by
    refine rn_bind R0 hq fun v1 Z1 e1 d1 H1 s1 R1 D1 h1 => ?_
    obtain ⟨ds, e2, h2⟩ := pgf_lift h1
    obtain ⟨as, bs, rfl, hle, rfl⟩ := gLZ_of e2
    obtain ⟨v, w, rfl, da, db⟩ := dpa_2 D1
    obtain ⟨l1, xs, rfl, g1, g2⟩ := dp_list da
    obtain ⟨l2, ys, rfl, g3, g4⟩ := dp_list db
    exact ⟨l1, l2, xs, ys, as, bs, B, e1, Z1, rfl, R1, g1, g3, g2, g4, hle, h2⟩
  have hh : X.A.handled = none := I.ok.hd hc
  refine wpAny_Call_Name_kw (ld_blt I hg hm (u := .type "list") (by decide +kernel) ?_)
  refine PyProof.Rows.callWith_type1 ?_ he rfl
  rw [he]
  refine Calls.spliced_cons ?_
  refine Call_ (ld_blt I hg2 hm2 PyProof.Rows.boot_zip (PyProof.Rows.callWith_type1 (thn (ha.run pos2 pins s σ H _ I h1) fun us s1 ⟨vs, H1, I1, r1, q1⟩ => ?_) hs hpl))
  obtain ⟨l1, l2, xs, ys, as, bs, B, e, Z1, rfl, R1, z1, z2, d1, d2, hle, hQ⟩ := q1
  cases r1 with
  | cons ra rr =>
    cases rr with
    | cons rb rr =>
      cases rr
      cases ra
      cases rb
      obtain ⟨us1, rv1, p1, _⟩ := I1.list (a := l1) (xs := xs) (.inl (.inl (R1.sub _ _ z1)))
      obtain ⟨us2, rv2, p3, _⟩ := I1.list (a := l2) (xs := ys) (.inl (.inl (R1.sub _ _ z2)))
      refine call_zip_2 p1.isList p3.isList fun h' hz hTI hTO hi1 hi2 hsz hk => Calls.spliced_nil ?_
      have hTy : ∀ (g : Heap) (t : Nat), (∀ c o, h'.get? c = some o → c ≠ h'.objs.size → g.get? c = some o) → ({ s1 with heap := g, toks := t } : Shared).TypeIs (.ref (s1.heap.objs.size + 4)) "zip" := fun g t k => ⟨_, k _ _ hz (nn (by omega)), rfl⟩
      have ne4 : (h'.objs.size == s1.heap.objs.size + 4) = false := by rw [hsz]; simp
      refine callType_codes (Q₁ := fun obj s₁ => obj = .ref h'.objs.size ∧ s₁ = { s1 with heap := h'.push { cls := .type "list", data := .seq #[] } }) F.called_list (F.typeCall_list_1 _) F.entry_list_init (code_list_new _ ⟨rfl, rfl⟩) fun obj s₁ h₁ => ?_
      obtain ⟨rfl, rfl⟩ := h₁
      have g0 : (h'.push { cls := .type "list", data := .seq #[] }).get? h'.objs.size = some { cls := .type "list", data := .seq #[] } := Heap.get?_push_size _ rfl
      refine ⟨⟨_, g0, rfl⟩, F.args_list_init_2 _ _, ?_⟩
      refine wpAny_bind (m := Builtin.List.listItems (.ref h'.objs.size)) (show wpAny _ _ (seqItems? _ >>= _) _ _ _ from wpAny_bind (wpAny_seqItems g0 rfl (wpAny_pure ?_)))
      refine wpAny_bind (m := updateSeq h'.objs.size (fun _ => #[])) (wpAny_updateSeq g0 rfl ?_)
      have g1 := Heap.get?_update_self (Obj.mapSeq (fun _ => (#[] : Array Value))) g0 rfl
      refine wpAny_bind (wpAny_letGo ?_)
      have k1 : ∀ c o, h'.get? c = some o → c ≠ h'.objs.size → ((h'.push { cls := .type "list", data := .seq #[] }).update h'.objs.size (Obj.mapSeq (fun _ => (#[] : Array Value)))).get? c = some o := fun c o q hc => (Heap.get?_update_other _ _ (Ne.symm hc)).trans (Heap.get?_push_of_some _ q)
      unfold Builtin.List.listExtendWith
      refine wpAny_bind (wpAny_typeOf (hTy _ _ k1) ?_)
      have w1 : Builtin.List.listSameRef (.ref h'.objs.size) (.ref (s1.heap.objs.size + 4)) = false := ne4
      have w2 : (Value.type "zip" == Value.type "list") = false := by decide
      have w3 : (Value.type "zip" == Value.type "tuple") = false := by decide
      simp only [w1, w2, w3, Bool.or_false, Bool.false_eq_true, if_false]
      refine wpAny_bind (wpAny_pyIter_zip (s := { s1 with heap := _ }) (k1 _ _ hz (nn (by omega))) ?_)
      refine wpAny_bind (wpAny_holding ?_)
      unfold Builtin.List.listLengthHint
      refine wpAny_bind (wpAny_specialOf (hTy _ _ k1) lz_no_len ?_)
      refine wpAny_bind (m := specialOf (Value.ref (s1.heap.objs.size + 4)) (Str.ofString "__length_hint__")) (wpAny_specialOf (hTy _ _ k1) lz_no_hint ?_)
      refine wpAny_pure ?_
      refine wpAny_bind (m := rule "list.extend.makes-room") (wpAny_rule ?_)
      refine wpAny_bind (m := updateSeq h'.objs.size (·.push .none) >>= fun _ => updateSeq h'.objs.size (·.pop)) (wpAny_bind (wpAny_updateSeq g1 rfl ?_))
      have g2 := Heap.get?_update_self (Obj.mapSeq (·.push Value.none)) g1 rfl
      refine wpAny_updateSeq (hz := by seq_fits) g2 rfl ?_
      have g3 := Heap.get?_update_self (Obj.mapSeq (·.pop)) g2 rfl
      have k3 : ∀ c o, h'.get? c = some o → c ≠ h'.objs.size → ((((h'.push { cls := .type "list", data := .seq #[] }).update h'.objs.size (Obj.mapSeq (fun _ => (#[] : Array Value)))).update h'.objs.size (Obj.mapSeq (·.push Value.none))).update h'.objs.size (Obj.mapSeq (·.pop))).get? c = some o :=
        fun c o q hc => (Heap.get?_update_other _ _ (Ne.symm hc)).trans ((Heap.get?_update_other _ _ (Ne.symm hc)).trans (k1 c o q hc))
      have k4 : ∀ c o, s1.heap.get? c = some o → c ≠ h'.objs.size := fun c o q => Nat.ne_of_lt (Nat.lt_of_lt_of_le (Heap.lt_size q) (by omega))
      have hS : s1.heap.objs.size ≤ h'.objs.size := by omega
      have nS : H1 h'.objs.size = none := I1.hok.fresh hS
      have lt1 : @LT.lt Nat _ l1 s1.heap.objs.size := let ⟨_, q, _⟩ := p1.isList; Heap.lt_size q
      have lt2 : @LT.lt Nat _ l2 s1.heap.objs.size := let ⟨_, q, _⟩ := p3.isList; Heap.lt_size q
      have f : ∀ b : Addr, @LE.le Nat _ s1.heap.objs.size b → @LT.lt Nat _ b h'.objs.size → FpOk X pins (upd H1 h'.objs.size (.lst [])) b := fun b hb hb2 => I1.fpOk hb (by rw [upd_ne (Nat.ne_of_lt hb2)]; exact I1.hok.fresh hb)
      have ff : ∀ b ∈ [s1.heap.objs.size + 4, s1.heap.objs.size + 3, s1.heap.objs.size, s1.heap.objs.size + 1], FpOk X pins (upd H1 h'.objs.size (.lst [])) b := fun b hb => by
        simp only [List.mem_cons, List.not_mem_nil, or_false] at hb
        rcases hb with rfl | rfl | rfl | rfl
        · exact f _ (by omega) (by omega)
        · exact f _ (by omega) (by omega)
        · exact f _ (by omega) (by omega)
        · exact f _ (by omega) (by omega)
      refine wpAny_pure ⟨plainId_quiet F.plain_extend_loop _, ?_⟩
      refine lz_fill (S := h'.objs.size) (TI := s1.heap.objs.size + 2) (TO := s1.heap.objs.size + 3) (i1 := s1.heap.objs.size) (i2 := s1.heap.objs.size + 1) (l1 := l1) (l2 := l2) (us1 := us1.toArray) (us2 := us2.toArray) (pins := pins) (σ := σ) (B := B) (e := e) (Z0 := Z1) (A := X.A.in1) ⟨by constructor <;> first | exact Nat.ne_of_lt (by omega) | exact Nat.ne_of_gt (by omega), ?_⟩ rv1 rv2 (dpa_len d1) (dpa_len d2) hle hh (fun s' Z' H' vs q1 q2 q3 q4 q5 q6 q7 q8 => ⟨rfl, .ref h'.objs.size, H', q3, rfl, hQ h'.objs.size vs Z' H' q1 q2 q4 q5 q6 q7 q8⟩) (min as.length bs.length) 0 _ (by omega) ⟨⟨Z1, upd H1 h'.objs.size (.lst []), [], Same.refl _, R1.new0 nS, I1.laid (t' := s1.toks) (fun c o q => k3 c o (hk c o q) (k4 c o q)) hS ⟨by show 0 ≤ sizeLine; decide, [], _, .nil, g3⟩, upd_same, R1.noZ nS, R1.fresh nS, R1.noOwn nS, .nil, d1, d2, ff⟩, ⟨⟨_, k3 _ _ hTO (nn (by omega))⟩, k3 _ _ hTI (nn (by omega)), hi1.at fun o q => k3 _ o q (nn (by omega)), hi2.at fun o q => k3 _ o q (nn (by omega)), p1.isList.at fun o q => k3 _ o (hk _ o q) (k4 _ o q), p3.isList.at fun o q => k3 _ o (hk _ o q) (k4 _ o q), .inl ⟨k3 _ _ hz (nn (by omega)), _, _, k3 _ _ hTO (nn (by omega))⟩⟩⟩
      · refine ⟨?_, ?_, ?_, ?_, ?_, ?_, ?_⟩ <;> exact Nat.ne_of_gt (by omega)
end
end G
set_option Elab.async false
set_option linter.all false
set_option maxRecDepth 100000
/-! more words -/
namespace G
open PySem PySem.Spec PyProof.Rows L2
section
variable {X : Cx} {W : WX} {pos : Pos}
def eNeg (p : XE) : XE := fun e => (p e).bind fun d e1 => match d with
  | .int i => .ok (.int (-i)) e1
  | _ => .bad
theorem se_neg {a : Expr} {p : XE} (ha : SE X W a p) : SE X W (.UnaryOp .USub a pos) (eNeg p) := by
  refine PE.imp (pe_un un_neg ha) fun σ H Q ⟨B, e, Z, R0, hq⟩ => ?_
  refine rg_bind R0 hq fun v1 Z1 e1 d1 H1 s1 R1 D1 h1 => ?_
  cases D1 with
  | int i => exact ⟨i, rfl, h1 _ Z1 H1 (Same.refl _) R1 (.int _)⟩
  | non => exact h1.elim
  | bl _ => exact h1.elim
  | str _ => exact h1.elim
  | lst _ _ => exact h1.elim
  | tup _ _ => exact h1.elim
def dOr : D → D → Option D := dI (fun _ _ => True) fun i j => .int (Builtin.bitOr i j)
def dXor : D → D → Option D := dI (fun _ _ => True) fun i j => .int (Builtin.bitXor i j)
theorem se_bitor {a b : Expr} {p q : XE} (ha : SE X W a p) (hb : SE X W b q) : SE X W (.BinOp a .BitOr b pos) (eOp dOr p q) := se_op op_or ok_I0 ha hb
theorem se_bitxor {a b : Expr} {p q : XE} (ha : SE X W a p) (hb : SE X W b q) : SE X W (.BinOp a .BitXor b pos) (eOp dXor p q) := se_op op_xor ok_I0 ha hb
def dMax : List D → Option D
  | [.int i, .int j] => some (.int (if j > i then j else i))
  | _ => none
def dMin : List D → Option D
  | [.int i, .int j] => some (.int (if j < i then j else i))
  | _ => none
def dAbs : List D → Option D
  | [.int i] => some (.int (if i < 0 then -i else i))
  | _ => none
theorem ok_max {K : Frag} : OkC K (fun xs H Q => ∃ i j, xs = [.int i, .int j] ∧ Q (.int (if j > i then j else i)) H) dMax := by
  intro Z H xs ds d Q s D1 e k
  unfold dMax at e
  split at e
  · cases e
    obtain ⟨v, w, rfl, hv, hw⟩ := dpa_2 D1
    cases dp_int hv
    cases dp_int hw
    exact ⟨_, _, rfl, k _ Z H (Nw.refl s) (.int _)⟩
  · cases e
theorem ok_min {K : Frag} : OkC K (fun xs H Q => ∃ i j, xs = [.int i, .int j] ∧ Q (.int (if j < i then j else i)) H) dMin := by
  intro Z H xs ds d Q s D1 e k
  unfold dMin at e
  split at e
  · cases e
    obtain ⟨v, w, rfl, hv, hw⟩ := dpa_2 D1
    cases dp_int hv
    cases dp_int hw
    exact ⟨_, _, rfl, k _ Z H (Nw.refl s) (.int _)⟩
  · cases e
theorem ok_abs {K : Frag} : OkC K (fun xs H Q => ∃ i, xs = [.int i] ∧ Q (.int (if i < 0 then -i else i)) H) dAbs := by
  intro Z H xs ds d Q s D1 e k
  unfold dAbs at e
  split at e
  · cases e
    obtain ⟨v, rfl, hv⟩ := dpa_1 D1
    cases dp_int hv
    exact ⟨_, rfl, k _ Z H (Nw.refl s) (.int _)⟩
  · cases e
theorem se_max2 {a b : Expr} {q : XA} {p : Pos} (hc : X.calm = true) (hg : Gl X "max") (hm : X.mg "max" = none) (ha : SA X W [a, b] q) (he : starEach [a, b] X.env = (false, eval a X.env) :: starEach [b] X.env := by rfl) (hpl : (backTo pos (starEach [b] X.env)).any (·.1) = false := by rfl) : SE X W (.Call (.Name "max" p) [a, b] [] pos) (eCall dMax q) :=
  se_tCB ok_max (pe_callB (call_max2 hc) hg hm (by decide +kernel) ha (by decide) (by decide) he hpl)
theorem se_min2 {a b : Expr} {q : XA} {p : Pos} (hc : X.calm = true) (hg : Gl X "min") (hm : X.mg "min" = none) (ha : SA X W [a, b] q) (he : starEach [a, b] X.env = (false, eval a X.env) :: starEach [b] X.env := by rfl) (hpl : (backTo pos (starEach [b] X.env)).any (·.1) = false := by rfl) : SE X W (.Call (.Name "min" p) [a, b] [] pos) (eCall dMin q) :=
  se_tCB ok_min (pe_callB (call_min2 hc) hg hm (by decide +kernel) ha (by decide) (by decide) he hpl)
theorem se_abs {a : Expr} {q : XA} {p : Pos} (hg : Gl X "abs") (hm : X.mg "abs" = none) (ha : SA X W [a] q) (he : starEach [a] X.env = (false, eval a X.env) :: starEach [] X.env := by rfl) (hpl : (backTo pos (starEach [] X.env)).any (·.1) = false := by rfl) : SE X W (.Call (.Name "abs" p) [a] [] pos) (eCall dAbs q) :=
  se_tCB ok_abs (pe_callB call_abs hg hm (by decide +kernel) ha (by decide) (by decide) he hpl)
/-! int(text) -/
def dIntT : List D → Option D
  | [.str a] => match PySem.intText? a with
    | some n => if a.length ≤ 640 then some (.int n) else none
    | none => none
  | _ => none
theorem ok_intT {K : Frag} : OkC K (fun xs H Q => ∃ a n, xs = [.str a] ∧ PySem.intText? a = some n ∧ a.length ≤ 640 ∧ Q (.int n) H) dIntT := by
  intro Z H xs ds d Q s D1 e k
  unfold dIntT at e
  split at e
  · obtain ⟨v, rfl, hv⟩ := dpa_1 D1
    cases dp_str hv
    split at e
    · rename_i n hn
      split at e
      · cases e
        exact ⟨_, n, rfl, hn, by assumption, k _ Z H (Nw.refl s) (.int _)⟩
      · cases e
    · cases e
  · cases e
def dIntA (ds : List D) : Option D := (dInt ds).orElse fun _ => dIntT ds
theorem callr_or {f : Value} {r r' : List V → Hp → VK → Prop} (h : CallR X f r) (h' : CallR X f r') : CallR X f (fun xs H Q => r xs H Q ∨ r' xs H Q) :=
  fun pins s σ H xs us Q I rv q => q.elim (h pins s σ H xs us Q I rv) (h' pins s σ H xs us Q I rv)
theorem se_intA {a : Expr} {q : XA} {p : Pos} (hg : Gl X "int") (hm : X.mg "int" = none) (ha : SA X W [a] q) (he : starEach [a] X.env = (false, eval a X.env) :: starEach [] X.env := by rfl) (hpl : (backTo pos (starEach [] X.env)).any (·.1) = false := by rfl) : SE X W (.Call (.Name "int" p) [a] [] pos) (eCall dIntA q) :=
  se_tCB (okC_or ok_int ok_intT) (pe_callTy (callr_or call_int1 call_int_str) hg hm (by decide +kernel) ha (by decide) (by decide) he hpl)
/-! the script: len, a walk -/
def eLenScr (i : Nat) : XE := fun e => match e[i]? with
  | some (.scr xs) => .ok (.int (xs.length : Nat)) e
  | _ => .bad
theorem se_lenScr {i : Nat} {x : Str} {px p : Pos} (hg : Gl X "len") (hm : X.mg "len" = none) (ha : PE X (.Name x px) (tVar i)) (he : starEach [.Name x px] X.env = (false, eval (.Name x px) X.env) :: starEach [] X.env := by rfl) (hpl : (backTo pos (starEach [] X.env)).any (·.1) = false := by rfl) : SE X W (.Call (.Name "len" p) [.Name x px] [] pos) (eLenScr i) := by
  refine PE.imp (pe_callB call_len_seq hg hm PySem.boot_len (pa_cons ha pa_nil he) (by decide) (by decide) he hpl) fun σ H Q ⟨B, e, Z, R0, hq⟩ => ?_
  unfold eLenScr at hq
  split at hq
  · rename_i xs he
    obtain ⟨a, vs, h1, h2, h3⟩ := R0.scr he
    refine ⟨_, h1, a, vs, rfl, .inl (Same.seq R0.sub h2), ?_⟩
    rw [dpa_len h3]
    exact hq _ Z H (Same.refl _) R0 (.int _)
  · exact hq.elim
def iScr (i : Nat) : XI := fun e => match e[i]? with
  | some (.scr xs) => .ok xs e
  | _ => .bad
theorem si_scr {tg : Expr} {i : Nat} {x : Str} {px : Pos} (h : PE X (.Name x px) (tVar i)) : SI X W tg (.Name x px) (iScr i) := by
  refine ⟨fun pins s σ H R I ⟨B, e, Z, R0, hq⟩ => ?_⟩
  have h1 : tVar i σ H fun v H1 => ∃ a vs, v = .ref a ∧ SqL X.K H1 a vs ∧ R (Itl X.K a) H1 := by
    unfold iScr at hq
    split at hq
    · rename_i xs he
      obtain ⟨a, vs, e1, e2, e3⟩ := R0.scr he
      exact ⟨_, e1, a, vs, rfl, Same.seq R0.sub e2, hq _ Z H (Same.refl _) R0 (wk_list e2 e3)⟩
    · exact hq.elim
  refine thn (h.run pins s σ H _ I h1) fun v s1 ⟨x, H1, I1, r1, a, vs, e1, q, hr⟩ => ?_
  exact it_list pins s1 σ H1 x v R I1 r1 ⟨a, vs, e1, q, hr⟩
/-! xs.pop(i) -/
def mPop : List D → List D → Option (D × List D)
  | xs, [.int i] => if -(2 ^ 63) ≤ i ∧ i < 2 ^ 63 then match ixN xs.length i with
    | some k => match xs[k]? with
      | some y => some (y, xs.eraseIdx k)
      | none => none
    | none => none
    else none
  | _, _ => none
theorem ok_popAt {K : Frag} : OkMut K rPopAt mPop := by
  intro Z H l xs vs ds as d ys Q s h1 h2 h3 h4 e k
  unfold mPop at e
  split at e
  · split at e
    · rename_i hb
      split at e
      · rename_i k' hk
        split at e
        · rename_i y hy
          cases e
          obtain ⟨v, rfl, hv⟩ := dpa_1 h4
          cases dp_int hv
          rw [← dpa_len h3] at hk
          obtain ⟨u, hu, du⟩ := dpa_get h3 hy
          exact ⟨l, xs, _, k', u, rfl, rfl, h1, hb.1, hb.2, (ixN_seq hk).1, hu, k _ _ (dpa_erase k' h3) du⟩
        · cases e
      · cases e
    · cases e
  · cases e
theorem se_pop {i : Nat} {x : Str} {px ap pos : Pos} {a : Expr} {q : XA} (hx : PE X (.Name x px) (tVar i)) (ha : SA X W [a] q)
    (hbase : attributeBase (.Name x px) "pop" X.env (eval (.Name x px) X.env) = eval (.Name x px) X.env := by rfl)
    (hfew : ((backTo pos (starEach [a] X.env)).all (fun x => !x.1) && (backToKw pos (keywordEach [] X.env)).all (fun x => x.1.isSome)
      && decide ([a].length + ([] : List Keyword).length + (if ([] : List Keyword).isEmpty then 0 else 1) < 30)) = true := by rfl)
    (hline : (ap.endLine == pos.line) = true := by rfl) (hs : starEach [a] X.env = (false, eval a X.env) :: starEach [] X.env := by rfl) (hplain : (backTo pos (starEach [] X.env)).any (·.1) = false := by rfl) :
    SE X W (.Call (.Attribute (.Name x px) "pop" ap) [a] [] pos) (eMut i mPop q) :=
  PE.imp (pe_bm PySem.F.plainAttrs_list PySem.F.slot_list_pop PySem.F.type_list_pop mt_popAt hx ha hbase hfew hline hs hplain) fun _ _ _ => mut_imp ok_popAt
end
/-! enumerate of a list, a tuple, a text -/
section
variable {prog : Program} {w : World} {A : Around} {E : Value → Shared → Prop} {s : Shared}
theorem draws_of {it : Addr} {ls : List Addr} {n : Nat} {Y : Nat → Value → Prop} {tn : Nat → Heap → Prop} (hh : A.handled = none) (I : Inn prog w it ls n Y tn) : Draws prog w A it (it :: ls) n Y tn where
  live := fun i h st => let ⟨o, q, _⟩ := I.obj i h st; ⟨o, q⟩
  frame := fun i h h' st k => I.keep i h h' st fun b hb o e => k b (by rcases hb with rfl | hb <;> simp [*]) o e
  item := fun i s Q E hi st hQ => I.item A i s Q E hh hi st fun v h' t' y t b => hQ v h' t' y t b
  done := fun s Q E st hE => I.done A s Q E hh st hE
theorem meets_enumG (u : Value) (o : Obj) (P : Heap → Prop) (g : GivesIt u o P) :
    Meets (Builtin.«enumerate.__new__» ⟨[.type "enumerate", u], []⟩) (fun _ R s => P s.heap ∧ R (.ok (.ret (.ref (s.heap.push o).objs.size)))
      { s with heap := (s.heap.push o).push { cls := .type "enumerate", data := .fields #[.none, .bool false, .ref s.heap.objs.size, rawInt 0, .none, .none] } }) :=
  .of_wp fun prog w A R s h => by
    obtain ⟨hp, gg, d, tk, os⟩ := s
    obtain ⟨hl, h⟩ := h
    have hsub := sub_enumerate
    have a1 := fun (A : Around) Q E => g prog w A ⟨hp, gg, d, tk, os⟩ Q E hl
    wp_walk
    refine wpAny_stack_any fun st => wpAny_pure ?_
    split
    · rename_i c _ _ _ _ _
      cases (c == Value.type "enumerate")
      · wp_walk using a1 _ _ _
        exact ⟨_, rfl, h⟩
      · wp_walk using a1 _ _ _
        exact ⟨_, rfl, h⟩
    · wp_walk using a1 _ _ _
      exact ⟨_, rfl, h⟩
theorem call_enumG {u : Value} {o : Obj} {P : Heap → Prop} (g : GivesIt u o P) (p : P s.heap) (nf : o.isFreed = false) {Q : Value → Shared → Prop}
    (h : ∀ h', IsEnum h' (s.heap.objs.size + 1) s.heap.objs.size 0 .none → h'.get? s.heap.objs.size = some o → (∀ b o, s.heap.get? b = some o → h'.get? b = some o) → Q (.ref (s.heap.objs.size + 1)) { s with heap := h' }) :
    wpAny (model prog w) A (call (.type "enumerate") [u]) Q E s := by
  refine callType_new F.called_enumerate (by decide) (F.typeCall_enumerate_1 _) (F.newCall_enumerate_1 _) (fun obj => F.args_object_init_2 obj _) F.entry_enumerate_new (meets_enumG u o P g) ⟨p, ?_⟩
  have z1 : (s.heap.push o).objs.size = s.heap.objs.size + 1 := Heap.size_push ..
  have e2 : ((s.heap.push o).push { cls := .type "enumerate", data := .fields #[.none, .bool false, .ref s.heap.objs.size, rawInt 0, .none, .none] }).get? (s.heap.push o).objs.size = some _ := Heap.get?_push_size _ rfl
  have e1 : ((s.heap.push o).push { cls := .type "enumerate", data := .fields #[.none, .bool false, .ref s.heap.objs.size, rawInt 0, .none, .none] }).get? s.heap.objs.size = some o := Heap.get?_push_of_some _ (Heap.get?_push_size _ nf)
  show _ ∧ _
  rw [z1] at e2 ⊢
  exact ⟨⟨_, e2, rfl⟩, h _ e2 e1 fun b o x => Heap.get?_push_of_some _ (Heap.get?_push_of_some _ x)⟩
end
def ItE (n : Nat) (G : Hp → Prop) (V1 : Nat → V → Prop) : It :=
  ⟨fun i H => i < n ∧ G H, fun i H v H' => ∃ T x, v = .ref T ∧ H T = none ∧ H' = upd H T (.tup [.int (i : Nat), x]) ∧ V1 i x, fun i H => i = n ∧ G H⟩
theorem turn_enumG {P : Program} {w : World} {K : Frag} {elts : List Expr} {kk : Nat} {tpos : Pos} {n : Nat} {V1 : Nat → V → Prop} {t1 : Nat → Heap → Prop} {e it : Addr} {ls : List Addr} {G1 : Hp → Prop} (ne : e ≠ it) (nl : e ∉ ls) (nl2 : it ∉ ls)
    (k1 : Kd P w K it ls n G1 V1 t1) : Turn P w K (.Tuple elts kk tpos) (ItE n G1 V1) [e, it] e (fun i h => (∃ old, IsEnum h e it ((i : Nat) : Int) old) ∧ t1 i h) where
  mem := by simp
  obj := fun i h st b hb => by
    obtain ⟨⟨old, he⟩, h1⟩ := st
    simp only [List.mem_cons, List.not_mem_nil, or_false] at hb
    rcases hb with rfl | rfl
    · exact ⟨_, he, fun v q => nomatch q⟩
    · exact k1.obj i h h1
  keep := fun i h h' st k => let ⟨⟨old, he⟩, h1⟩ := st; ⟨⟨old, k e (by simp) _ he⟩, k1.keep i h h' h1 (k it (by simp))⟩
  item := by
    intro X hP hw hK hc i pins s σ H E I hf st hg
    obtain ⟨⟨old, he⟩, h1⟩ := st
    obtain ⟨hi, g1⟩ := hg
    obtain ⟨Y1, s1, J1, q1, r1⟩ := k1.inn X pins σ s H hP hw hK I g1
    subst hP hw hK
    have hel : e < s.heap.objs.size := Heap.lt_size he
    have hil : it < s.heap.objs.size := by obtain ⟨_, q, _⟩ := k1.obj _ _ h1; exact Heap.lt_size q
    refine wpAny_pyNext_enum_itemD (draws_of (A := X.A.in1) (I.ok.hd hc) J1) he ⟨h1, q1⟩ hi ne (by simp [ne, nl]) fun u h' tk hu ho h1' hT hsz hk => ?_
    refine ⟨_, rfl, wpAny_letOwnedTupleGo_enum (s := { s with heap := h', toks := tk + 1 }) ho fun h'' he' sb => ?_⟩
    obtain ⟨x, ru, vx⟩ := r1 i u hu
    have hT2 : h''.get? s.heap.objs.size = some { cls := .type "tuple", data := .seq #[.int i tk, u] } := (sb.2 _ (Nat.ne_of_gt hel)).trans hT
    have new : ObjOk X.prog X.w (upd H s.heap.objs.size (.tup [.int (i : Nat), x])) h'' s.heap.objs.size (.tup [.int (i : Nat), x]) :=
      ⟨by show 2 ≤ sizeLine; decide, [.int i tk, u], .cons ⟨_, rfl⟩ (.cons ru .nil), ⟨_, hT2, rfl, _, rfl⟩⟩
    have I1 : Inv X pins σ (upd H s.heap.objs.size (.tup [.int (i : Nat), x])) { s with heap := h'', toks := tk + 1 } :=
      I.turnedNew (ch := [e, it]) (fun b ob hb q => (sb.2 b (fun z => hb (by simp [z]))).trans (hk b ob (fun z => hb (by simp [z])) (fun z => hb (by simp [z])) q)) hf (Nat.le_refl _) new
    refine ⟨.ref s.heap.objs.size, _, I1, rfl, ⟨_, x, rfl, I.hok.fresh (Nat.le_refl _), rfl, vx⟩, ⟨⟨u, ?_⟩, ?_⟩, fun b hb => ?_⟩
    · rw [show ((i + 1 : Nat) : Int) = (i : Int) + 1 by omega]; exact he'
    · exact k1.keep _ _ _ h1'.1 fun o q => (sb.2 _ ne.symm).trans q
    · have hb' : b < s.heap.objs.size := by
        simp only [List.mem_cons, List.not_mem_nil, or_false] at hb
        rcases hb with rfl | rfl
        · exact hel
        · exact hil
      rw [upd_ne (Nat.ne_of_lt hb')]
      exact (hf b hb).1
  done := by
    intro X hP hw hK hc i pins s σ H E I hf st hg
    obtain ⟨⟨old, he⟩, h1⟩ := st
    obtain ⟨hi, g1⟩ := hg
    obtain ⟨Y1, s1, J1, q1, r1⟩ := k1.inn X pins σ s H hP hw hK I g1
    subst hP hw hK
    subst hi
    obtain ⟨f0, f1, f2, f3, f4, f5⟩ := hf it (by simp)
    exact wpAny_pyNext_enum_endD (draws_of (A := X.A.in1) (I.ok.hd hc) J1) he ⟨h1, q1⟩ fun h' eb => ⟨rfl, I.turned (t' := s.toks) (fun b o hb q => eb b o hb q) f0 f1 f3 f4 f5⟩
  self := fun A i s Q E st h => let ⟨⟨_, he⟩, _⟩ := st; wpAny_pyIter_enum he h
def gEnum : List D → Option (List D)
  | [d] => (iD d).map (enumD 0)
  | _ => none
theorem si_enum {X : Cx} {W : WX} {a : Expr} {q : XA} {p pos tpos : Pos} {elts : List Expr} {kk : Nat} (hg : Gl X "enumerate") (hm : X.mg "enumerate" = none) (ha : SA X W [a] q)
    (hs : starEach [a] X.env = [(false, eval a X.env)] := by rfl) : SI X W (.Tuple elts kk tpos) (.Call (.Name "enumerate" p) [a] [] pos) (iArgs gEnum q) := by
  refine ⟨fun pins s σ H R I ⟨B, e, Z, R0, hq⟩ => ?_⟩
  have h1 : RA X.K X.mg W q σ H fun vs H1 => ∃ v as, vs = [v] ∧ ∃ Z1, Same Z1 H1 ∧ Zp X Z1 v as ∧ ∀ J, Wk X.K Z1 J (enumD 0 as) → R J H1 := by
    refine rg_bind R0 hq fun v1 Z1 e1 d1 H1 s1 R1 D1 h1 => ?_
    obtain ⟨ds, e2, h2⟩ := pgi_lift h1
    unfold gEnum at e2
    split at e2
    · rename_i d
      obtain ⟨v, rfl, hv⟩ := dpa_1 D1
      cases hi : iD d with
      | none => rw [hi] at e2; cases e2
      | some as =>
        rw [hi] at e2
        cases e2
        exact ⟨v, as, rfl, Z1, R1.sub, zp_of hv hi, fun J w => h2 J Z1 H1 (Same.refl _) R1 w⟩
    · cases e2
  refine Call_ (ld_blt I hg hm boot_enumerate (PyProof.Rows.callWith_type1 (thn (ha.run pos pins s σ H _ I h1) fun us s1 ⟨vs, H1, I1, r1, q1⟩ => ?_) hs rfl))
  obtain ⟨v, as, rfl, Z1, sz, zv, fin⟩ := q1
  cases r1 with
  | cons ra rr =>
    cases rr
    obtain ⟨o1, P1, G1, V1, l1, at1, g1, k1, p1, nf1, gg1, lt1, kd1, i01, y1⟩ := zv.ex _ s1 pins σ H1 ra I1 sz
    refine call_enumG g1 p1 nf1 fun h' he h1 hk => wpAny_pyIter_enum he ?_
    have I2 : Inv X pins σ H1 { s1 with heap := h' } := I1.kept (t' := s1.toks) hk
    have no : ∀ b : Addr, @LE.le Nat _ s1.heap.objs.size b → b ∉ l1 := fun b hb hm => Nat.lt_irrefl _ (Nat.lt_of_lt_of_le (lt1 b hm) hb)
    refine ⟨s1.heap.objs.size + 1, [s1.heap.objs.size + 1, s1.heap.objs.size], _, _, H1, rfl, I2, turn_enumG (Nat.succ_ne_self _) (no _ (Nat.le_add_right _ _)) (no _ (Nat.le_refl _)) (kd1 _), ⟨⟨.none, he⟩, i01 _ _ h1⟩, fun c hcm => ?_, fin _ ?_⟩
    · have hle : @LE.le Nat _ s1.heap.objs.size c := by
        simp only [List.mem_cons, List.not_mem_nil, or_false] at hcm
        rcases hcm with rfl | rfl
        · exact Nat.le_add_right _ _
        · exact Nat.le_refl _
      exact I1.fpOk hle (I1.hok.fresh hle)
    · refine ⟨fun i H hi s => ⟨by rw [enumD_len] at hi; exact hi, gg1 H s⟩, fun H s => ⟨enumD_len 0 as, gg1 H s⟩, fun i H x H' B e σ Z2 hi s R hy => ?_⟩
      obtain ⟨T, x, rfl, nT, rfl, vx⟩ := hy
      rw [enumD_len] at hi
      obtain ⟨d1, e1, D1⟩ := y1 i x (by omega) vx
      obtain ⟨R2, s2⟩ := R.new (o := .tup [.int (i : Nat), x]) nT
      have := enumD_get as 0 i d1 e1
      rw [Nat.zero_add] at this
      exact ⟨_, _, s2, R2, this, .tup (.inl (.inl upd_same)) (.cons (.int _) (.cons (dp_mono (s.trans s2) D1) .nil))⟩
end G
set_option Elab.async false
set_option linter.all false
set_option maxRecDepth 100000
/-! the order of data: comparing, sorting -/
namespace G
open PySem PySem.Spec PyProof.Rows L2 PySem.W
section
variable {X : Cx} {W : WX} {pos : Pos}
def alikeD (a b : D) : Bool := PySem.W.alike a b && !dIsN a && decide (a.depth ≤ 32)
def dLtA (a b : D) : Option D := if alikeD a b = true then some (.bool (PySem.W.dataLt a b)) else none
def dGtA (a b : D) : Option D := if alikeD a b = true then some (.bool (PySem.W.dataLt b a)) else none
def dLeA (a b : D) : Option D := if alikeD a b = true then some (.bool (!PySem.W.dataLt b a)) else none
def dGeA (a b : D) : Option D := if alikeD a b = true then some (.bool (!PySem.W.dataLt a b)) else none
theorem alikeD_of {a b : D} (h : alikeD a b = true) : PySem.W.alike a b = true ∧ a ≠ .none ∧ a.depth ≤ 32 := by
  unfold alikeD at h
  simp only [Bool.and_eq_true, decide_eq_true_eq] at h
  exact ⟨h.1.1, fun z => by subst z; simp [dIsN] at h, h.2⟩
def rCmpD (K : Frag) (f : D → D → Bool) : R2 := fun x y H Q => ∃ d e, Dp K H x d ∧ Dp K H y e ∧ alikeD d e = true ∧ Q (.bl (f d e)) H
theorem op_ltD (hu : X.A.units + 64 < cLine) : OpR X (compareOp .Lt) (rCmpD X.K PySem.W.dataLt) := by
  intro pins s σ H x y v u Q I rx ry ⟨d, e, hd, he, ha, q⟩
  obtain ⟨as, r1⟩ := Dp.reads I d x v hd rx
  obtain ⟨bs, r2⟩ := Dp.reads I e y u he ry
  obtain ⟨a1, a2, a3⟩ := alikeD_of ha
  exact lt_data r1 r2 a1 a2 (by omega) ⟨.bl _, H, I, rfl, q⟩
theorem op_gtD (hu : X.A.units + 64 < cLine) : OpR X (compareOp .Gt) (rCmpD X.K fun a b => PySem.W.dataLt b a) := by
  intro pins s σ H x y v u Q I rx ry ⟨d, e, hd, he, ha, q⟩
  obtain ⟨as, r1⟩ := Dp.reads I d x v hd rx
  obtain ⟨bs, r2⟩ := Dp.reads I e y u he ry
  obtain ⟨a1, a2, a3⟩ := alikeD_of ha
  exact gt_data r1 r2 a1 a2 (by omega) ⟨.bl _, H, I, rfl, q⟩
theorem op_leD (hu : X.A.units + 64 < cLine) : OpR X (compareOp .LtE) (rCmpD X.K fun a b => !PySem.W.dataLt b a) := by
  intro pins s σ H x y v u Q I rx ry ⟨d, e, hd, he, ha, q⟩
  obtain ⟨as, r1⟩ := Dp.reads I d x v hd rx
  obtain ⟨bs, r2⟩ := Dp.reads I e y u he ry
  obtain ⟨a1, a2, a3⟩ := alikeD_of ha
  exact le_data r1 r2 a1 a2 (by omega) ⟨.bl _, H, I, rfl, q⟩
theorem op_geD (hu : X.A.units + 64 < cLine) : OpR X (compareOp .GtE) (rCmpD X.K fun a b => !PySem.W.dataLt a b) := by
  intro pins s σ H x y v u Q I rx ry ⟨d, e, hd, he, ha, q⟩
  obtain ⟨as, r1⟩ := Dp.reads I d x v hd rx
  obtain ⟨bs, r2⟩ := Dp.reads I e y u he ry
  obtain ⟨a1, a2, a3⟩ := alikeD_of ha
  exact ge_data r1 r2 a1 a2 (by omega) ⟨.bl _, H, I, rfl, q⟩
theorem ok_cmpD {K : Frag} {f : D → D → Bool} : Ok2 K (rCmpD K f) (fun a b => if alikeD a b = true then some (.bool (f a b)) else none) := by
  intro Z H x y d1 d2 d Q s D1 D2 e k
  dsimp only at e
  split at e
  · cases e
    rename_i ha
    exact ⟨d1, d2, Dq.dp (dp_mono s D1), Dq.dp (dp_mono s D2), ha, k _ Z H (Nw.refl s) (.bl _)⟩
  · cases e
def dLt2 (a b : D) : Option D := (dLt a b).orElse fun _ => dLtA a b
def dLe2 (a b : D) : Option D := (dLe a b).orElse fun _ => dLeA a b
def dGt2 (a b : D) : Option D := (dGt a b).orElse fun _ => dGtA a b
def dGe2 (a b : D) : Option D := (dGe a b).orElse fun _ => dGeA a b
theorem se_lt2 {a b : Expr} {p q : XE} (hu : X.A.units + 64 < cLine) (ha : SE X W a p) (hb : SE X W b q) : SE X W (.Compare a [.Lt] [b] pos) (eOp dLt2 p q) := se_cmp (opr_or op_lt (op_ltD hu)) (ok2_or ok_B0 ok_cmpD) ha hb (nobehind _ (by decide) (by decide))
theorem se_le2 {a b : Expr} {p q : XE} (hu : X.A.units + 64 < cLine) (ha : SE X W a p) (hb : SE X W b q) : SE X W (.Compare a [.LtE] [b] pos) (eOp dLe2 p q) := se_cmp (opr_or op_le (op_leD hu)) (ok2_or ok_B0 ok_cmpD) ha hb (nobehind _ (by decide) (by decide))
theorem se_gt2 {a b : Expr} {p q : XE} (hu : X.A.units + 64 < cLine) (ha : SE X W a p) (hb : SE X W b q) : SE X W (.Compare a [.Gt] [b] pos) (eOp dGt2 p q) := se_cmp (opr_or op_gt (op_gtD hu)) (ok2_or ok_B0 ok_cmpD) ha hb (nobehind _ (by decide) (by decide))
theorem se_ge2 {a b : Expr} {p q : XE} (hu : X.A.units + 64 < cLine) (ha : SE X W a p) (hb : SE X W b q) : SE X W (.Compare a [.GtE] [b] pos) (eOp dGe2 p q) := se_cmp (opr_or op_ge (op_geD hu)) (ok2_or ok_B0 ok_cmpD) ha hb (nobehind _ (by decide) (by decide))
theorem st_lt2 {a b : Expr} {p q : XE} (hu : X.A.units + 64 < cLine) (ha : SE X W a p) (hb : SE X W b q) : ST X W (.Compare a [.Lt] [b] pos) (tOf (eOp dLt2 p q)) := st_cmp (opr_or op_lt (op_ltD hu)) (ok2_or ok_B0 ok_cmpD) ha hb (nobehind _ (by decide) (by decide))
theorem st_le2 {a b : Expr} {p q : XE} (hu : X.A.units + 64 < cLine) (ha : SE X W a p) (hb : SE X W b q) : ST X W (.Compare a [.LtE] [b] pos) (tOf (eOp dLe2 p q)) := st_cmp (opr_or op_le (op_leD hu)) (ok2_or ok_B0 ok_cmpD) ha hb (nobehind _ (by decide) (by decide))
theorem st_gt2 {a b : Expr} {p q : XE} (hu : X.A.units + 64 < cLine) (ha : SE X W a p) (hb : SE X W b q) : ST X W (.Compare a [.Gt] [b] pos) (tOf (eOp dGt2 p q)) := st_cmp (opr_or op_gt (op_gtD hu)) (ok2_or ok_B0 ok_cmpD) ha hb (nobehind _ (by decide) (by decide))
theorem st_ge2 {a b : Expr} {p q : XE} (hu : X.A.units + 64 < cLine) (ha : SE X W a p) (hb : SE X W b q) : ST X W (.Compare a [.GtE] [b] pos) (tOf (eOp dGe2 p q)) := st_cmp (opr_or op_ge (op_geD hu)) (ok2_or ok_B0 ok_cmpD) ha hb (nobehind _ (by decide) (by decide))
/-! sorted(xs) -/
def leD (a b : D) : Bool := PySem.W.dataLe false (fun d : D => d) a b
def isTup1 : D → Bool
  | .tuple (_ :: _) => true
  | _ => false
def noTup : D → Bool
  | .tuple _ => false
  | .none => false
  | _ => true
def sortable (ds : List D) : Bool := (ds.all fun a => ds.all fun b => PySem.W.alike a b) && (ds.all isTup1 || ds.all noTup) && (ds.all fun d => decide (d.depth ≤ 32)) && decide (ds.length ≤ sizeLine)
theorem sortable_of {ds : List D} (h : sortable ds = true) : AllAlike ds ∧ Sortable ds ∧ (∀ d ∈ ds, d.depth ≤ 32) ∧ ds.length ≤ sizeLine := by
  unfold sortable at h
  simp only [Bool.and_eq_true, Bool.or_eq_true, List.all_eq_true, decide_eq_true_eq] at h
  refine ⟨fun d hd d' hd' => h.1.1.1 d hd d' hd', ?_, h.1.2, h.2⟩
  rcases h.1.1.2 with h | h
  · refine .inl fun d hd => ?_
    have := h d hd
    cases d with
    | tuple xs =>
      cases xs with
      | nil => simp [isTup1] at this
      | cons x r => exact ⟨x, r, rfl⟩
    | _ => simp [isTup1] at this
  · refine .inr fun d hd => ?_
    have := h d hd
    exact ⟨fun z => by subst z; simp [noTup] at this, fun xs z => by subst z; simp [noTup] at this⟩
def sortD : List D → Option (List D)
  | [.list xs] => if sortable xs = true then some (xs.mergeSort leD) else none
  | _ => none
theorem dpa_zip {K : Frag} {Z : Hp} : ∀ {vs : List V} {ds : List D}, DqAll K Z vs ds → (vs.zip ds).map (·.1) = vs ∧ (vs.zip ds).map (·.2) = ds ∧ ∀ p ∈ vs.zip ds, Dq K Z p.1 p.2
  | _, _, .nil => ⟨rfl, rfl, fun p hp => by simp at hp⟩
  | _, _, .cons a b => by
    obtain ⟨h1, h2, h3⟩ := dpa_zip b
    refine ⟨by simp [h1], by simp [h2], fun p hp => ?_⟩
    rcases List.mem_cons.mp (by simpa using hp) with rfl | hp
    · exact a
    · exact h3 p hp
theorem dpa_of_pairs {K : Frag} {Z : Hp} : ∀ (ps : List (V × D)), (∀ p ∈ ps, Dq K Z p.1 p.2) → DqAll K Z (ps.map (·.1)) (ps.map (·.2))
  | [], _ => .nil
  | p :: ps, h => .cons (h p (by simp)) (dpa_of_pairs ps fun q hq => h q (by simp [hq]))
theorem each_vals : ∀ {ps : List (V × D)} {us : List Value}, Vals (ps.map (·.1)) us → EachIs (fun u (p : V × D) => RelV p.1 u) us ps
  | [], _, h => by
    have h' : Vals [] _ := h
    cases h'
    exact .nil
  | p :: ps, _, h => by
    have h' : Vals (p.1 :: ps.map (·.1)) _ := h
    cases h' with
    | cons a b => exact .cons a (each_vals b)
theorem vals_each : ∀ {ps : List (V × D)} {us : List Value}, EachIs (fun u (p : V × D) => RelV p.1 u) us ps → Vals (ps.map (·.1)) us
  | _, _, .nil => .nil
  | _, _, .cons a b => .cons a (vals_each b)
def rSortD (K : Frag) : List V → Hp → VK → Prop := fun vs H Q => ∃ (a : Addr) (ps : List (V × D)), vs = [.ref a] ∧ SqL K H a (ps.map (·.1)) ∧ (∀ p ∈ ps, Dp K H p.1 p.2) ∧ sortable (ps.map (·.2)) = true ∧
  ∀ q, H q = none → Q (.ref q) (upd H q (.lst ((ps.mergeSort (PySem.W.dataLe false (·.2))).map (·.1))))
theorem each_reads {pins : List (Addr × Obj)} {σ : L2.St} {H : Hp} {s : Shared} (I : Inv X pins σ H s) : ∀ {ps : List (V × D)} {us : List Value}, EachIs (fun u (p : V × D) => RelV p.1 u) us ps → (∀ p ∈ ps, Dp X.K H p.1 p.2) → EachIs (fun u (p : V × D) => ∃ as, Reads s.heap u p.2 as) us ps
  | _, _, .nil, _ => .nil
  | _, _, .cons a b, h => .cons (Dp.reads I _ _ _ (h _ (by simp)) a) (each_reads I b fun p hp => h p (by simp [hp]))
theorem cr_sortD (hu : X.A.units + 64 < cLine) : CallR X (.builtin "sorted") (rSortD X.K) := by
  intro pins s σ H vs us Q I r h
  obtain ⟨a, ps, rfl, hs, hp, ho, q⟩ := h
  obtain ⟨its, rv, hl, hz⟩ := I.list hs
  rw [Vals.ref1 r]
  obtain ⟨o1, o2, o3, o4⟩ := sortable_of ho
  have ev := each_vals rv
  have er := each_reads I ev hp
  refine sorted_data (R := fun u (p : V × D) => RelV p.1 u) (enc := fun p : V × D => p.2) (bs := ps) hl.isList ev er o1 o2 (by rw [List.length_map] at o4; exact o4) (fun p hp => by have := o3 p.2 (List.mem_map.mpr ⟨p, hp, rfl⟩); omega) fun out hout eo => ?_
  obtain ⟨ep, he'⟩ := PyProof.Rows.sortedAll_at s.heap its out.toArray
  have hlen : ((ps.mergeSort (PySem.W.dataLe false (·.2))).map (·.1)).length ≤ sizeLine := by
    rw [List.length_map, List.length_mergeSort]
    rw [List.length_map] at hz
    exact hz
  exact ⟨.ref _, upd H (s.heap.objs.size + 1) (.lst ((ps.mergeSort (PySem.W.dataLe false (·.2))).map (·.1))), I.laid (t' := s.toks) (fun _ _ => PyProof.Rows.sortedAll_old) (Nat.le_succ _) ⟨hlen, out, ep, vals_each eo, he'⟩, rfl, q _ (I.hok.fresh (Nat.le_succ _))⟩
theorem sn_sorted {a : Expr} {q : XA} {p : Pos} (hu : X.A.units + 64 < cLine) (hg : Gl X "sorted") (hm : X.mg "sorted" = none) (ha : SA X W [a] q) (he : starEach [a] X.env = (false, eval a X.env) :: starEach [] X.env := by rfl) (hpl : (backTo pos (starEach [] X.env)).any (·.1) = false := by rfl) : SN X W (.Call (.Name "sorted" p) [a] [] pos) (nCall sortD q) := by
  refine PE.imp (pe_callB (cr_sortD hu) hg hm (by decide +kernel) ha (by decide) (by decide) he hpl) fun σ H Q ⟨B, e, Z, R0, hq⟩ => ?_
  refine rn_bind R0 hq fun v1 Z1 e1 d1 H1 s1 R1 D1 h1 => ?_
  obtain ⟨ds, e2, h2⟩ := pgf_lift h1
  unfold sortD at e2
  split at e2
  · rename_i xs
    split at e2
    · rename_i ho
      cases e2
      obtain ⟨v, rfl, hv⟩ := dpa_1 D1
      obtain ⟨a, ws, rfl, g1, g2⟩ := dp_list hv
      obtain ⟨z1, z2, z3⟩ := dpa_zip g2
      refine ⟨a, ws.zip xs, rfl, by rw [z1]; exact .inl (.inl (R1.sub _ _ g1)), fun p hp => Dq.dp (dp_mono R1.sub (z3 p hp)), by rw [z2]; exact ho, ?_⟩
      have e3 : xs.mergeSort leD = ((ws.zip xs).mergeSort (PySem.W.dataLe false (·.2))).map (·.2) := by
        conv => lhs; rw [← z2]
        rw [List.map_mergeSort]
        intro a ha b hb
        rfl
      rw [e3] at h2
      exact pgf_new R1 (dpa_of_pairs _ fun p hp => z3 p (List.mem_mergeSort.mp hp)) h2
    · cases e2
  · cases e2
end
end G
set_option Elab.async false
set_option linter.all false
set_option maxRecDepth 100000
/-! a written dict, at once asked -/
namespace G
open PySem PySem.Spec PyProof.Rows L2
def kD : Key → D
  | .inl i => .int i
  | .inr s => .str s
def keyD : D → Option Key
  | .int i => some (.inl i)
  | .str s => some (.inr s)
  | _ => none
theorem keyD_v {K : Frag} {Z : Hp} {v : V} {d : D} {k : Key} (h : Dq K Z v d) (e : keyD d = some k) : v = kV k := by
  cases h with
  | int i => cases e; rfl
  | str s => cases e; rfl
  | _ => cases e
theorem kD_dq {K : Frag} {Z : Hp} (k : Key) : Dq K Z (kV k) (kD k) := by
  cases k with
  | inl i => exact .int i
  | inr s => exact .str s
def dfind (kvs : List (Key × Key)) (k : Key) : Option Key := (kvs.find? fun p => decide (p.1 = k)).map (·.2)
section
variable {X : Cx} {W : WX} {pos : Pos}
theorem merge_new : ∀ (more acc : List (Key × V)), (acc ++ more).map (·.1) |>.Nodup → mergeK acc more = acc ++ more := by
  intro more
  induction more with
  | nil => intro acc _; simp [mergeK]
  | cons p more ih =>
    intro acc h
    have hp : putK acc p.1 p.2 = acc ++ [p] := by
      unfold putK
      rw [if_neg]
      intro z
      obtain ⟨q, hq, e⟩ := List.any_eq_true.mp z
      have e : q.1 = p.1 := of_decide_eq_true e
      rw [List.map_append, List.nodup_append] at h
      exact h.2.2 q.1 (List.mem_map.mpr ⟨q, hq, rfl⟩) p.1 (by simp) e
    have : mergeK acc (p :: more) = mergeK (acc ++ [p]) more := by
      show more.foldl _ (putK acc p.1 p.2) = _
      rw [hp]; rfl
    rw [this, ih _ (by simpa using h)]
    simp
theorem valV_c (kvs : List (Key × Key)) (k : Key) (h : (kvs.map (·.1)).Nodup) : valV (mergeK [] (kvs.map fun p => (p.1, kV p.2))) k = (dfind kvs k).map kV := by
  rw [merge_new _ _ (by simpa [List.map_map, Function.comp_def] using h), List.nil_append]
  unfold valV dfind
  rw [List.find?_map, Option.map_map, Option.map_map]
  rfl
theorem tPairs_c (kvs : List (Key × Key)) {σ : L2.St} {H : Hp} {Q : List (V × V) → Hp → Prop} (h : Q (kvs.map fun p => (kV p.1, kV p.2)) H) : tPairs (kvs.map fun p => (tC (kV p.1), tC (kV p.2))) σ H Q := by
  induction kvs generalizing Q with
  | nil => exact h
  | cons p r ih => exact ih (Q := fun ps H3 => Q ((kV p.1, kV p.2) :: ps) H3) h
def eDictC (kvs : List (Key × Key)) (p : XE) : XE := fun e => (p e).bind fun d e1 => R.lift ((keyD d).bind fun k => (dfind kvs k).map kD) e1
theorem upd_twice {H : Hp} {a : Addr} {o o' : HO} : upd (upd H a o) a o' = upd H a o' := by
  funext b
  by_cases h : b = a
  · subst h; rw [upd_same, upd_same]
  · rw [upd_ne h, upd_ne h, upd_ne h]
theorem se_dictC {kvs : List (Key × Key)} {keys : List (Option Expr)} {values : List Expr} {i : Expr} {p : XE} {pd pos : Pos} (hu : X.A.units + 64 < cLine) (h : PPs X pd keys values (kvs.map fun p => (tC (kV p.1), tC (kV p.2)))) (hn : (kvs.map (·.1)).Nodup) (h15 : kvs.length ≤ 15)
    (hi : SE X W i p) (hs : NoSl i) (hall : keys.all (·.isSome) = true := by rfl) (hl : keys.length = values.length := by rfl) (h0 : keys ≠ [] := by exact List.cons_ne_nil _ _) (h15' : keys.length ≤ 15 := by decide) :
    SE X W (.Subscript (.Dict keys values pd) i pos) (eDictC kvs p) := by
  refine PE.imp (pe_dget (by omega) (pe_disp h hall hl h0 h15') hi hs) fun σ H Q ⟨B, e, Z, R0, hq⟩ => ?_
  intro a ha
  refine tPairs_c kvs ⟨upd_same, kvs.map fun p => (p.1, kV p.2), by simp [List.map_map, Function.comp_def], by rw [List.length_map]; exact h15, ?_⟩
  rw [upd_twice]
  obtain ⟨R2, s2⟩ := R0.new (o := .dK (mergeK [] (kvs.map fun p => (p.1, kV p.2)))) ha
  refine rg_bind R2 (Pg.up s2 hq) fun v1 Z1 e1 d1 H1 s1 R1 D1 h1 => ?_
  obtain ⟨d, ed, k⟩ := pg_lift R1 h1
  cases hk : keyD d1 with
  | none => rw [hk] at ed; cases ed
  | some key =>
    rw [hk] at ed
    cases hf : dfind kvs key with
    | none => simp only [Option.bind_some, hf, Option.map_none] at ed; cases ed
    | some val =>
      simp only [Option.bind_some, hf, Option.map_some] at ed
      cases ed
      refine ⟨a, kV val, rfl, ?_, k _ Z1 H1 (Nw.refl R1.sub) (kD_dq _)⟩
      have hg := DGet.k (H := H1) (a := a) (k := key) (R1.sub _ _ (s1 _ _ (upd_same (H := Z) (a := a))))
      rw [valV_c kvs key hn, hf] at hg
      rw [keyD_v D1 hk]
      exact hg
/-- {..}.get(k, x) -/
def eDictG (kvs : List (Key × Key)) (p q : XE) : XE := fun e => (p e).bind fun d e1 => (q e1).bind fun x e2 => R.lift ((keyD d).map fun k => ((dfind kvs k).map kD).getD x) e2
theorem se_dictG {kvs : List (Key × Key)} {keys : List (Option Expr)} {values : List Expr} {i f : Expr} {p q : XE} {pd apos pos : Pos} (hu : X.A.units + 64 < cLine) (h : PPs X pd keys values (kvs.map fun p => (tC (kV p.1), tC (kV p.2)))) (hn : (kvs.map (·.1)).Nodup) (h15 : kvs.length ≤ 15)
    (hi : SE X W i p) (hf : SE X W f q) (m : M2 X (.Dict keys values pd) "get" apos i f pos) (hall : keys.all (·.isSome) = true := by rfl) (hl : keys.length = values.length := by rfl) (h0 : keys ≠ [] := by exact List.cons_ne_nil _ _) (h15' : keys.length ≤ 15 := by decide) :
    SE X W (.Call (.Attribute (.Dict keys values pd) "get" apos) [i, f] [] pos) (eDictG kvs p q) := by
  refine PE.imp (pe_dget2 (by omega) (pe_disp h hall hl h0 h15') hi hf m) fun σ H Q ⟨B, e, Z, R0, hq⟩ => ?_
  intro a ha
  refine tPairs_c kvs ⟨upd_same, kvs.map fun p => (p.1, kV p.2), by simp [List.map_map, Function.comp_def], by rw [List.length_map]; exact h15, a, rfl, .inl ⟨_, .inl (by rw [upd_twice]; exact upd_same)⟩, ?_⟩
  rw [upd_twice]
  obtain ⟨R2, s2⟩ := R0.new (o := .dK (mergeK [] (kvs.map fun p => (p.1, kV p.2)))) ha
  refine rg_bind R2 (Pg.up s2 hq) fun v1 Z1 e1 d1 H1 s1 R1 D1 h1 => ?_
  refine rg_bind R1 h1 fun v3 Z3 e3 d3 H3 s3 R3 D3 h3 => ?_
  obtain ⟨d, ed, k⟩ := pg_lift R3 h3
  cases hk : keyD d1 with
  | none => rw [hk] at ed; cases ed
  | some key =>
    rw [hk] at ed
    simp only [Option.map_some, Option.some.injEq] at ed
    subst ed
    refine ⟨(dfind kvs key).map kV, ?_, ?_⟩
    · have hg := DGet.k (H := H3) (a := a) (k := key) (R3.sub _ _ ((s1.trans s3) _ _ (upd_same (H := Z) (a := a))))
      rw [valV_c kvs key hn] at hg
      rw [keyD_v D1 hk]
      exact hg
    · cases hf : dfind kvs key with
      | none => exact k _ Z3 H3 (Nw.refl R3.sub) (by simpa [hf] using D3)
      | some val => exact k _ Z3 H3 (Nw.refl R3.sub) (by simpa [hf] using kD_dq val)
end
end G
set_option Elab.async false
set_option linter.all false
set_option maxRecDepth 100000
/-! enumerate(zip(a, b)): the zip's own tuple is held by the enumerate -/
namespace G
open PySem PySem.Spec PyProof.Rows L2
open PySem.Sem (wp)
abbrev ZQ (h : Heap) (z TI TO : Addr) (own : Value) (f : Bool) : Prop :=
  h.get? z = some { cls := .type "zip", dict := none, data := .fields #[own, .bool f, .bool false, .ref TI, .ref TO], slots := #[] }
def ZS (h : Heap) (z TI TO : Addr) : Prop := ∃ (own : Value) (f : Bool), (own = .none ∨ ∃ T : Addr, own = rawInt T) ∧ ZQ h z TI TO own f
section
variable {prog : Program} {w : World} {A : Around} {E : Value → Shared → Prop} {s : Shared}
theorem alive_any {a : Addr} {Q : Option Obj → Shared → Prop} (h : Q (s.heap.get? a) s) : wpAny (model prog w) A (loadIfAlive a) Q E s := fun _ _ _ => h
theorem zq_free {z TI TO : Addr} {own : Value} {f : Bool} (ho : own = .none ∨ ∃ T : Addr, own = rawInt T) (hz : ZQ s.heap z TI TO own f) {Q : Bool → Shared → Prop} (h1 : Q true s)
    (h2 : ∀ h' f', ZQ h' z TI TO own f' → Heap.SameBut z s.heap h' → Q false { s with heap := h' }) : wpAny (model prog w) A (Builtin.SmallTypes.ownedTupleIsFree (.ref z)) Q E s := by
  unfold Builtin.SmallTypes.ownedTupleIsFree
  rcases ho with rfl | ⟨T, rfl⟩
  · exact wpAny_bind (wpAny_field hz rfl (x := .none) rfl (wpAny_pure h1))
  · refine wpAny_bind (wpAny_field hz rfl (x := rawInt T) rfl ?_)
    show wpAny _ _ (loadIfAlive ((T : Int).toNat) >>= _) _ _ _
    rw [Int.toNat_natCast]
    refine wpAny_bind (alive_any ?_)
    cases hT : s.heap.get? T with
    | none => exact wpAny_pure h1
    | some o =>
      simp only [Option.isNone_some, Bool.false_eq_true, if_false]
      refine wpAny_bind (wpAny_field hz rfl (x := .bool f) rfl ?_)
      cases f with
      | true =>
        rw [if_neg (show ¬ ((Value.bool true != Value.bool true) = true) from Bool.false_ne_true)]
        exact wpAny_pure (h2 s.heap _ hz (Heap.SameBut.refl _ _))
      | false =>
        rw [if_pos (show (Value.bool false != Value.bool true) = true from rfl)]
        exact wpAny_bind (wpAny_setField_rec hz (by simp) fun h₁ hz₁ hs₁ => wpAny_pure (h2 h₁ _ hz₁ hs₁))
variable {n1 n2 : Nat} {Y1 Y2 : Nat → Value → Prop} {t1 t2 : Nat → Heap → Prop} {z TI TO i1 i2 : Addr} {l1 l2 : List Addr}
theorem zz_item {hh : A.handled = none} (D : Zap z TI TO i1 i2 l1 l2) (I1 : Inn prog w i1 l1 n1 Y1 t1) (I2 : Inn prog w i2 l2 n2 Y2 t2) {k : Nat} {a b own : Value} {f : Bool} {Q : Value → Shared → Prop}
    (ho : own = .none ∨ ∃ T : Addr, own = rawInt T) (hz : ZQ s.heap z TI TO own f) (hTI : IsPair s.heap TI (.ref i1) (.ref i2)) (hTO : IsPair s.heap TO a b) (h1 : t1 k s.heap) (h2 : t2 k s.heap) (k1 : k < n1) (k2 : k < n2)
    (hQ : ∀ h' t' x y, Y1 k x → Y2 k y → ZS h' z TI TO → (∃ a b, IsPair h' TO a b) → t1 (k + 1) h' → t2 (k + 1) h' → IsPair h' s.heap.objs.size x y → h'.objs.size = s.heap.objs.size + 1 →
      (∀ c o, c ≠ z → c ≠ TO → c ≠ i1 → c ≠ i2 → s.heap.get? c = some o → h'.get? c = some o) → Q (.ref s.heap.objs.size) { s with heap := h', toks := t' }) :
    wpAny (model prog w) A (Builtin.«zip.__next__» ⟨[.ref z], []⟩) (fun fin s' => ∃ v, fin = .done (.ret v) ∧ Q v s') E s := by
  obtain ⟨⟨nTIz, nTOz, n1z, n2z⟩, ⟨nTOTI, n1TI, n2TI⟩, ⟨n1TO, n2TO⟩, n21⟩ := D.ne
  have zl1 : z ∉ l1 := fun q => D.a1 z q (by simp)
  have zl2 : z ∉ l2 := fun q => D.a2 z q (by simp)
  have Tl1 : TO ∉ l1 := fun q => D.a1 TO q (by simp)
  have Tl2 : TO ∉ l2 := fun q => D.a2 TO q (by simp)
  have i1l1 : i1 ∉ l1 := fun q => D.a1 i1 q (by simp)
  have i1l2 : i1 ∉ l2 := fun q => D.a2 i1 q (by simp)
  have i2l1 : i2 ∉ l1 := fun q => D.a1 i2 q (by simp)
  show wpAny _ _ (field (.ref z) 2 >>= _) _ _ _
  refine wpAny_bind (wpAny_field hz rfl (x := .bool false) rfl ?_)
  show wpAny _ _ (field (.ref z) 3 >>= _) _ _ _
  refine wpAny_bind (wpAny_field hz rfl (x := .ref TI) rfl ?_)
  refine wpAny_bind (wpAny_seqItems hTI rfl ?_)
  show wpAny _ _ (Builtin.SmallTypes.ownedTupleIsFree (.ref z) >>= _) _ _ _
  refine wpAny_bind (zq_free ho hz ?_ fun g1 f' z1 s1 => ?_)
  · simp only [if_true]
    refine wpAny_bind (wpAny_rule ?_)
    refine wpAny_bind (wpAny_field hz rfl (x := .ref TO) rfl ?_)
    refine wpAny_bind (wpAny_setField_rec hz (by simp) fun g1 z1 s1 => ?_)
    replace z1 : ZQ g1 z TI TO .ellipsis f := z1
    refine wpAny_bind ?_
    simp only [List.zipIdx_cons, List.zipIdx_nil, List.forIn_cons, List.forIn_nil]
    -- the first
    refine wpAny_bind (wpAny_bind (wpAny_onRaise ?_))
    show wpAny _ _ (Builtin.SmallTypes.nextOf (.ref i1) >>= _) _ _ _
    refine wpAny_bind (I1.item _ k _ _ _ hh k1 (I1.but h1 s1.extBut n1z.symm zl1) fun x g2 tk2 y1 u1 s2 => wpAny_pure ?_)
    have o2 : IsPair g2 TO a b := s2.extBut _ _ n1TO.symm (s1.extBut _ _ nTOz hTO)
    refine wpAny_bind (wpAny_seqItems o2 rfl ?_)
    refine wpAny_bind (wpAny_updateSeq_pair o2 fun g3 o3 s3 => ?_)
    replace o3 : IsPair g3 TO x b := o3
    refine wpAny_bind (wpAny_letGo (wpAny_pure ?_))
    -- the second
    refine wpAny_bind (wpAny_bind (wpAny_onRaise ?_))
    show wpAny _ _ (Builtin.SmallTypes.nextOf (.ref i2) >>= _) _ _ _
    refine wpAny_bind (I2.item _ k _ _ _ hh k2 (I2.but (I2.but (I2.but h2 s1.extBut n2z.symm zl2) s2.extBut n21.symm i1l2) s3.extBut n2TO.symm Tl2) fun y g4 tk4 y2 u2 s4 => wpAny_pure ?_)
    have o4 : IsPair g4 TO x b := s4.extBut _ _ n2TO.symm o3
    refine wpAny_bind (wpAny_seqItems o4 rfl ?_)
    refine wpAny_bind (wpAny_updateSeq_pair o4 fun g5 o5 s5 => ?_)
    replace o5 : IsPair g5 TO x y := o5
    refine wpAny_bind (wpAny_letGo (wpAny_pure (wpAny_pure ?_)))
    refine wpAny_bind (wpAny_seqItems o5 rfl ?_)
    refine wpAny_bind (wpAny_newTuple ?_)
    have size : g5.objs.size = s.heap.objs.size := by rw [s5.1, s4.1, s3.1, s2.1, s1.1]
    have z5 : ZQ g5 z TI TO .ellipsis f := s5.extBut _ _ nTOz.symm (s4.extBut _ _ n2z.symm (s3.extBut _ _ nTOz.symm (s2.extBut _ _ n1z.symm z1)))
    have k5 : ∀ c o, c ≠ z → c ≠ TO → c ≠ i1 → c ≠ i2 → s.heap.get? c = some o → g5.get? c = some o := fun c o c1 c2 c3 c4 e => s5.extBut _ _ c2 (s4.extBut _ _ c4 (s3.extBut _ _ c2 (s2.extBut _ _ c3 (s1.extBut _ _ c1 e))))
    have u5 : t1 (k + 1) g5 := I1.but (I1.but (I1.but u1 s3.extBut n1TO.symm Tl1) s4.extBut n21 i2l1) s5.extBut n1TO.symm Tl1
    have v5 : t2 (k + 1) g5 := I2.but u2 s5.extBut n2TO.symm Tl2
    have hzl : z < g5.objs.size := Heap.lt_size z5
    show wpAny _ _ (Builtin.SmallTypes.ownedTupleHandOut (.ref z) (.ref g5.objs.size) >>= _) _ _ _
    refine wpAny_bind ?_
    unfold Builtin.SmallTypes.ownedTupleHandOut
    have z6 : ZQ (g5.push { cls := .type "tuple", data := .seq #[x, y] }) z TI TO .ellipsis f := Heap.get?_push_of_some _ z5
    refine wpAny_bind (wpAny_setField_rec z6 (by simp) fun g7 z7 s7 => ?_)
    replace z7 : ZQ g7 z TI TO (rawInt g5.objs.size) f := z7
    refine wpAny_setField_rec z7 (by simp) fun g8 z8 s8 => ?_
    replace z8 : ZQ g8 z TI TO (rawInt g5.objs.size) false := z8
    have up : ∀ c o, c ≠ z → g5.get? c = some o → g8.get? c = some o := fun c o c1 e => s8.extBut _ _ c1 (s7.extBut _ _ c1 (Heap.get?_push_of_some _ e))
    have T8 : IsPair g8 g5.objs.size x y := s8.extBut _ _ (Nat.ne_of_gt hzl) (s7.extBut _ _ (Nat.ne_of_gt hzl) (Heap.get?_push_size _ rfl))
    have sz8 : g8.objs.size = g5.objs.size + 1 := by rw [s8.1, s7.1, Heap.size_push]
    rw [size] at z8 T8 sz8
    refine wpAny_pure ⟨_, rfl, ?_⟩
    show Q (.ref g5.objs.size) _
    rw [size]
    exact hQ g8 _ x y y1 y2 ⟨_, _, .inr ⟨_, rfl⟩, z8⟩ ⟨_, _, up _ _ nTOz o5⟩ (I1.keep _ _ _ u5 fun c hc o e => up c o (fun q => by
      subst q
      rcases hc with hc | hc
      · exact n1z hc.symm
      · exact zl1 hc) e) (I2.keep _ _ _ v5 fun c hc o e => up c o (fun q => by
      subst q
      rcases hc with hc | hc
      · exact n2z hc.symm
      · exact zl2 hc) e) T8 sz8 fun c o c1 c2 c3 c4 e => up c o c1 (k5 c o c1 c2 c3 c4 e)
  · simp only [Bool.false_eq_true, if_false]
    refine wpAny_bind ?_
    rw [← Array.forIn_toList]
    simp only [List.forIn_cons, List.forIn_nil]
    refine wpAny_bind (wpAny_bind (wpAny_holding ?_))
    show wpAny _ _ (Builtin.SmallTypes.nextOf (.ref i1) >>= _) _ _ _
    refine wpAny_bind (I1.item _ k _ _ _ hh k1 (I1.but h1 s1.extBut n1z.symm zl1) fun x g2 tk2 y1 u1 s2 => wpAny_pure ?_)
    refine wpAny_pure ?_
    refine wpAny_bind (wpAny_bind (wpAny_holding ?_))
    show wpAny _ _ (Builtin.SmallTypes.nextOf (.ref i2) >>= _) _ _ _
    refine wpAny_bind (I2.item _ k _ _ _ hh k2 (I2.but (I2.but h2 s1.extBut n2z.symm zl2) s2.extBut n21.symm i1l2) fun y g3 tk3 y2 u2 s3 => wpAny_pure ?_)
    refine wpAny_pure (wpAny_pure ?_)
    show wpAny _ _ (newTuple [x, y] >>= _) _ _ _
    refine wpAny_bind (wpAny_newTuple ?_)
    have size : g3.objs.size = s.heap.objs.size := by rw [s3.1, s2.1, s1.1]
    have z3 : ZQ g3 z TI TO own f' := s3.extBut _ _ n2z.symm (s2.extBut _ _ n1z.symm z1)
    have o3 : IsPair g3 TO a b := s3.extBut _ _ n2TO.symm (s2.extBut _ _ n1TO.symm (s1.extBut _ _ nTOz hTO))
    have k3 : ∀ c o, c ≠ z → c ≠ i1 → c ≠ i2 → s.heap.get? c = some o → g3.get? c = some o := fun c o c1 c2 c3 e => s3.extBut _ _ c3 (s2.extBut _ _ c2 (s1.extBut _ _ c1 e))
    have u3 : t1 (k + 1) g3 := I1.but u1 s3.extBut n21 i2l1
    refine wpAny_pure ⟨_, rfl, ?_⟩
    show Q (.ref g3.objs.size) _
    have hp : IsPair (g3.push { cls := .type "tuple", data := .seq #[x, y] }) g3.objs.size x y := Heap.get?_push_size _ rfl
    have hz4 : (g3.push { cls := .type "tuple", data := .seq #[x, y] }).objs.size = g3.objs.size + 1 := Heap.size_push ..
    rw [size] at hp hz4 ⊢
    exact hQ _ _ x y y1 y2 ⟨_, _, ho, Heap.get?_push_of_some _ z3⟩ ⟨_, _, Heap.get?_push_of_some _ o3⟩ (I1.keep _ _ _ u3 fun c hc o e => Heap.get?_push_of_some _ e) (I2.keep _ _ _ u2 fun c hc o e => Heap.get?_push_of_some _ e) hp hz4 fun c o c1 _ c3 c4 e => Heap.get?_push_of_some _ (k3 c o c1 c3 c4 e)
theorem zz_end {hh : A.handled = none} (D : Zap z TI TO i1 i2 l1 l2) (I1 : Inn prog w i1 l1 n1 Y1 t1) (I2 : Inn prog w i2 l2 n2 Y2 t2) {k : Nat} {a b own : Value} {f : Bool} {Q : Fin → Shared → Prop}
    (ho : own = .none ∨ ∃ T : Addr, own = rawInt T) (hz : ZQ s.heap z TI TO own f) (hTI : IsPair s.heap TI (.ref i1) (.ref i2)) (hTO : IsPair s.heap TO a b) (h1 : t1 k s.heap) (h2 : t2 k s.heap) (hk : k = min n1 n2)
    (hE : ∀ h' t' e, (∀ c o, c ≠ z → c ≠ TO → c ≠ i1 → c ≠ i2 → s.heap.get? c = some o → h'.get? c = some o) → (∃ o, h'.get? e = some o ∧ o.cls = .type "StopIteration") → E (.ref e) { s with heap := h', toks := t' }) :
    wpAny (model prog w) A (Builtin.«zip.__next__» ⟨[.ref z], []⟩) Q E s := by
  obtain ⟨⟨nTIz, nTOz, n1z, n2z⟩, ⟨nTOTI, n1TI, n2TI⟩, ⟨n1TO, n2TO⟩, n21⟩ := D.ne
  have zl1 : z ∉ l1 := fun q => D.a1 z q (by simp)
  have zl2 : z ∉ l2 := fun q => D.a2 z q (by simp)
  have Tl2 : TO ∉ l2 := fun q => D.a2 TO q (by simp)
  have i1l2 : i1 ∉ l2 := fun q => D.a2 i1 q (by simp)
  show wpAny _ _ (field (.ref z) 2 >>= _) _ _ _
  refine wpAny_bind (wpAny_field hz rfl (x := .bool false) rfl ?_)
  show wpAny _ _ (field (.ref z) 3 >>= _) _ _ _
  refine wpAny_bind (wpAny_field hz rfl (x := .ref TI) rfl ?_)
  refine wpAny_bind (wpAny_seqItems hTI rfl ?_)
  show wpAny _ _ (Builtin.SmallTypes.ownedTupleIsFree (.ref z) >>= _) _ _ _
  refine wpAny_bind (zq_free ho hz ?_ fun g1 f' z1 s1 => ?_)
  · simp only [if_true]
    refine wpAny_bind (wpAny_rule ?_)
    refine wpAny_bind (wpAny_field hz rfl (x := .ref TO) rfl ?_)
    refine wpAny_bind (wpAny_setField_rec hz (by simp) fun g1 z1 s1 => ?_)
    replace z1 : ZQ g1 z TI TO .ellipsis f := z1
    refine wpAny_bind ?_
    simp only [List.zipIdx_cons, List.zipIdx_nil, List.forIn_cons, List.forIn_nil]
    refine wpAny_bind (wpAny_bind (wpAny_onRaise ?_))
    show wpAny _ _ (Builtin.SmallTypes.nextOf (.ref i1) >>= _) _ _ _
    by_cases hl : k < n1
    · refine wpAny_bind (I1.item _ k _ _ _ hh hl (I1.but h1 s1.extBut n1z.symm zl1) fun x g2 tk2 y1 u1 s2 => wpAny_pure ?_)
      have o2 : IsPair g2 TO a b := s2.extBut _ _ n1TO.symm (s1.extBut _ _ nTOz hTO)
      refine wpAny_bind (wpAny_seqItems o2 rfl ?_)
      refine wpAny_bind (wpAny_updateSeq_pair o2 fun g3 o3 s3 => ?_)
      refine wpAny_bind (wpAny_letGo (wpAny_pure ?_))
      refine wpAny_bind (wpAny_bind (wpAny_onRaise ?_))
      show wpAny _ _ (Builtin.SmallTypes.nextOf (.ref i2) >>= _) _ _ _
      have ek : k = n2 := by omega
      subst ek
      refine wpAny_bind (I2.done _ _ _ _ hh (I2.but (I2.but (I2.but h2 s1.extBut n2z.symm zl2) s2.extBut n21.symm i1l2) s3.extBut n2TO.symm Tl2) fun g4 e s4 he => ?_)
      obtain ⟨oe, hoe, hce⟩ := he
      have z4 : ZQ g4 z TI TO .ellipsis f := s4 _ _ n2z.symm (s3.extBut _ _ nTOz.symm (s2.extBut _ _ n1z.symm z1))
      have nez : e ≠ z := fun q => by subst q; rw [z4] at hoe; cases hoe; simp at hce
      refine wpAny_setField_rec z4 (by simp) fun g5 _ s5 => hE g5 _ e (fun c o c1 c2 c3 c4 q => s5.extBut _ _ c1 (s4 _ _ c4 (s3.extBut _ _ c2 (s2.extBut _ _ c3 (s1.extBut _ _ c1 q))))) ⟨oe, s5.extBut _ _ nez hoe, hce⟩
    · have ek : k = n1 := by omega
      subst ek
      refine wpAny_bind (I1.done _ _ _ _ hh (I1.but h1 s1.extBut n1z.symm zl1) fun g2 e s2 he => ?_)
      obtain ⟨oe, hoe, hce⟩ := he
      have z2 : ZQ g2 z TI TO .ellipsis f := s2 _ _ n1z.symm z1
      have nez : e ≠ z := fun q => by subst q; rw [z2] at hoe; cases hoe; simp at hce
      refine wpAny_setField_rec z2 (by simp) fun g3 _ s3 => hE g3 _ e (fun c o c1 _ c3 _ q => s3.extBut _ _ c1 (s2 _ _ c3 (s1.extBut _ _ c1 q))) ⟨oe, s3.extBut _ _ nez hoe, hce⟩
  · simp only [Bool.false_eq_true, if_false]
    refine wpAny_bind ?_
    rw [← Array.forIn_toList]
    simp only [List.forIn_cons, List.forIn_nil]
    refine wpAny_bind (wpAny_bind (wpAny_holding ?_))
    show wpAny _ _ (Builtin.SmallTypes.nextOf (.ref i1) >>= _) _ _ _
    by_cases hl : k < n1
    · refine wpAny_bind (I1.item _ k _ _ _ hh hl (I1.but h1 s1.extBut n1z.symm zl1) fun x g2 tk2 y1 u1 s2 => wpAny_pure ?_)
      refine wpAny_pure ?_
      refine wpAny_bind (wpAny_bind (wpAny_holding ?_))
      show wpAny _ _ (Builtin.SmallTypes.nextOf (.ref i2) >>= _) _ _ _
      have ek : k = n2 := by omega
      subst ek
      refine wpAny_bind (I2.done _ _ _ _ hh (I2.but (I2.but h2 s1.extBut n2z.symm zl2) s2.extBut n21.symm i1l2) fun g4 e s4 he => ?_)
      exact hE g4 _ e (fun c o c1 c2 c3 c4 q => s4 _ _ c4 (s2.extBut _ _ c3 (s1.extBut _ _ c1 q))) he
    · have ek : k = n1 := by omega
      subst ek
      refine wpAny_bind (I1.done _ _ _ _ hh (I1.but h1 s1.extBut n1z.symm zl1) fun g2 e s2 he => ?_)
      exact hE g2 _ e (fun c o c1 _ c3 _ q => s2 _ _ c3 (s1.extBut _ _ c1 q)) he
theorem nextOf_zz (hh : A.handled = none) (D : Zap z TI TO i1 i2 l1 l2) (I1 : Inn prog w i1 l1 n1 Y1 t1) (I2 : Inn prog w i2 l2 n2 Y2 t2) {k : Nat} {Q : Value → Shared → Prop}
    (hz : ZS s.heap z TI TO) (hTI : IsPair s.heap TI (.ref i1) (.ref i2)) (hTO : ∃ a b, IsPair s.heap TO a b) (h1 : t1 k s.heap) (h2 : t2 k s.heap) (k1 : k < n1) (k2 : k < n2)
    (hQ : ∀ h' t' x y, Y1 k x → Y2 k y → ZS h' z TI TO → (∃ a b, IsPair h' TO a b) → t1 (k + 1) h' → t2 (k + 1) h' → IsPair h' s.heap.objs.size x y → h'.objs.size = s.heap.objs.size + 1 →
      (∀ c o, c ≠ z → c ≠ TO → c ≠ i1 → c ≠ i2 → s.heap.get? c = some o → h'.get? c = some o) → Q (.ref s.heap.objs.size) { s with heap := h', toks := t' }) :
    wpAny (model prog w) A (Builtin.SmallTypes.nextOf (.ref z)) Q E s := by
  obtain ⟨own, f, ho, hz⟩ := hz
  obtain ⟨a, b, hTO⟩ := hTO
  have hT : s.TypeIs (.ref z) "zip" := ⟨_, hz, rfl⟩
  unfold Builtin.SmallTypes.nextOf
  exact wpAny_bind (wpAny_callSpecial?_slot (name := Str.ofString "__next__") hT F.slot_zip_next (wpAny_call_entry F.slot_zip_next hT F.entry_zip_next
    (zz_item (A := A.in1) (hh := hh) D I1 I2 ho hz hTI hTO h1 h2 k1 k2 fun h' t' x y b1 b2 a1 a2 a3 a4 a5 a6 a7 => wpAny_pure (hQ h' t' x y b1 b2 a1 a2 a3 a4 a5 a6 a7)) (F.args_zip_next_1 _)))
theorem nextOf_zz_end (hh : A.handled = none) (D : Zap z TI TO i1 i2 l1 l2) (I1 : Inn prog w i1 l1 n1 Y1 t1) (I2 : Inn prog w i2 l2 n2 Y2 t2) {k : Nat} {Q : Value → Shared → Prop}
    (hz : ZS s.heap z TI TO) (hTI : IsPair s.heap TI (.ref i1) (.ref i2)) (hTO : ∃ a b, IsPair s.heap TO a b) (h1 : t1 k s.heap) (h2 : t2 k s.heap) (hk : k = min n1 n2)
    (hE : ∀ h' t' e, (∀ c o, c ≠ z → c ≠ TO → c ≠ i1 → c ≠ i2 → s.heap.get? c = some o → h'.get? c = some o) → (∃ o, h'.get? e = some o ∧ o.cls = .type "StopIteration") → E (.ref e) { s with heap := h', toks := t' }) :
    wpAny (model prog w) A (Builtin.SmallTypes.nextOf (.ref z)) Q E s := by
  obtain ⟨own, f, ho, hz⟩ := hz
  obtain ⟨a, b, hTO⟩ := hTO
  have hT : s.TypeIs (.ref z) "zip" := ⟨_, hz, rfl⟩
  unfold Builtin.SmallTypes.nextOf
  exact wpAny_bind (wpAny_callSpecial?_slot (name := Str.ofString "__next__") hT F.slot_zip_next (wpAny_call_entry F.slot_zip_next hT F.entry_zip_next
    (zz_end (A := A.in1) (hh := hh) D I1 I2 ho hz hTI hTO h1 h2 hk hE) (F.args_zip_next_1 _)))
/-- the enumerate apart from the zip -/
structure Eap (e z TI TO i1 i2 : Addr) (l1 l2 : List Addr) : Prop where
  ne : e ∉ [z, TI, TO, i1, i2]
  n1 : e ∉ l1
  n2 : e ∉ l2
theorem ez_item {e : Addr} {i : Nat} {old : Value} (hh : A.handled = none) (D : Zap z TI TO i1 i2 l1 l2) (De : Eap e z TI TO i1 i2 l1 l2) (I1 : Inn prog w i1 l1 n1 Y1 t1) (I2 : Inn prog w i2 l2 n2 Y2 t2) {Q : Value → Shared → Prop}
    (he : IsEnum s.heap e z i old) (hz : ZS s.heap z TI TO) (hTI : IsPair s.heap TI (.ref i1) (.ref i2)) (hTO : ∃ a b, IsPair s.heap TO a b) (h1 : t1 i s.heap) (h2 : t2 i s.heap) (k1 : i < n1) (k2 : i < n2)
    (hQ : ∀ g h' tk x y, Y1 i x → Y2 i y → ZS g z TI TO → (∃ a b, IsPair g TO a b) → t1 (i + 1) g → t2 (i + 1) g → IsPair g s.heap.objs.size x y → g.objs.size = s.heap.objs.size + 1 →
      (∀ c o, c ≠ z → c ≠ TO → c ≠ i1 → c ≠ i2 → s.heap.get? c = some o → g.get? c = some o) →
      IsEnumOut h' e z ((i : Int) + 1) (.ref s.heap.objs.size) (s.heap.objs.size + 1) → h'.get? (s.heap.objs.size + 1) = some { cls := .type "tuple", data := .seq #[.int i tk, .ref s.heap.objs.size] } → h'.objs.size = s.heap.objs.size + 2 →
      (∀ b o, b ≠ e → g.get? b = some o → h'.get? b = some o) → Q (.ref (s.heap.objs.size + 1)) { s with heap := h', toks := tk + 1 }) :
    wpAny (model prog w) A (Builtin.«enumerate.__next__» ⟨[.ref e], []⟩) (fun fin s' => ∃ v, fin = .done (.ret v) ∧ Q v s') E s := by
  have nz : e ≠ z := fun q => De.ne (by simp [q])
  have nTO : e ≠ TO := fun q => De.ne (by simp [q])
  have ni1 : e ≠ i1 := fun q => De.ne (by simp [q])
  have ni2 : e ≠ i2 := fun q => De.ne (by simp [q])
  obtain ⟨hp, g, d, tk₀, os⟩ := s
  show wpAny _ _ (field (.ref e) 2 >>= _) _ _ _
  refine wpAny_bind (wpAny_field he rfl (x := .ref z) rfl ?_)
  refine wpAny_bind (nextOf_zz hh D I1 I2 hz hTI hTO h1 h2 k1 k2 fun h₁ tk x y y1 y2 z1 o1 u1 u2 hT sz1 kp1 => ?_)
  replace sz1 : h₁.objs.size = hp.objs.size + 1 := sz1
  replace hT : IsPair h₁ hp.objs.size x y := hT
  have he₁ : IsEnum h₁ e z i old := kp1 _ _ nz nTO ni1 ni2 he
  show wpAny _ _ (field (.ref e) 3 >>= _) _ _ ⟨h₁, g, d, tk, os⟩
  refine wpAny_bind (wpAny_field he₁ rfl (x := rawInt i) rfl ?_)
  show wpAny _ _ (field (.ref e) 4 >>= _) _ _ ⟨h₁, g, d, tk, os⟩
  refine wpAny_bind (wpAny_field he₁ rfl (x := .none) rfl ?_)
  show wpAny _ _ (mkInt i >>= _) _ _ ⟨h₁, g, d, tk, os⟩
  refine wpAny_bind (wpAny_mkInt ?_)
  show wpAny _ _ (setField (.ref e) 3 (rawInt ((i : Int) + 1)) >>= _) _ _ ⟨h₁, g, d, tk + 1, os⟩
  refine wpAny_bind (wpAny_setField_rec he₁ (by simp) fun h₂ he₂ hs₂ => ?_)
  replace hs₂ : Heap.SameBut e h₁ h₂ := hs₂
  replace he₂ : IsEnum h₂ e z ((i : Int) + 1) old := he₂
  show wpAny _ _ (setField (.ref e) 4 .none >>= _) _ _ ⟨h₂, g, d, tk + 1, os⟩
  refine wpAny_bind (wpAny_setField_rec he₂ (by simp) fun h₃ he₃ hs₃ => ?_)
  replace hs₃ : Heap.SameBut e h₂ h₃ := hs₃
  replace he₃ : IsEnum h₃ e z ((i : Int) + 1) old := he₃
  show wpAny _ _ (newTuple [.int i tk, .ref hp.objs.size] >>= _) _ _ ⟨h₃, g, d, tk + 1, os⟩
  refine wpAny_bind (wpAny_newTuple ?_)
  have he₄ : IsEnum (h₃.push { cls := .type "tuple", data := .seq #[.int i tk, .ref hp.objs.size] }) e z ((i : Int) + 1) old := Heap.get?_push_of_some _ he₃
  generalize hh₄ : h₃.push { cls := .type "tuple", data := .seq #[.int i tk, .ref hp.objs.size] } = h₄ at he₄
  have hsz : h₃.objs.size = hp.objs.size + 1 := by rw [hs₃.1, hs₂.1, sz1]
  have hel : e < hp.objs.size + 1 := Nat.lt_succ_of_lt (Heap.lt_size he)
  have ht₄ : h₄.get? (hp.objs.size + 1) = some { cls := .type "tuple", data := .seq #[.int i tk, .ref hp.objs.size] } := by rw [← hh₄, ← hsz]; exact Heap.get?_push_size _ rfl
  have hz₄ : h₄.objs.size = hp.objs.size + 2 := by rw [← hh₄, Heap.size_push, hsz]
  have hk₄ : ∀ b o, b ≠ e → h₁.get? b = some o → h₄.get? b = some o := fun b o hbe hb => by
    rw [← hh₄]; exact Heap.get?_push_of_some _ (hs₃.extBut b o hbe (hs₂.extBut b o hbe hb))
  show wpAny _ _ (Builtin.SmallTypes.ownedTupleIsFree (.ref e) >>= _) _ _ ⟨h₄, g, d, tk + 1, os⟩
  rw [hsz]
  clear hh₄ he₃ hs₃ he₂ hs₂ he₁ hsz h₃ h₂
  refine wpAny_bind ?_
  · unfold Builtin.SmallTypes.ownedTupleIsFree
    refine wpAny_bind (wpAny_field he₄ rfl (x := .none) rfl (wpAny_pure ?_))
    simp only [if_true]
    refine wpAny_bind (wpAny_rule ?_)
    refine wpAny_bind (wpAny_field he₄ rfl (x := old) rfl ?_)
    refine wpAny_bind (wpAny_setField_rec he₄ (by simp) fun h₅ he₅ hs₅ => ?_)
    replace hs₅ : Heap.SameBut e h₄ h₅ := hs₅
    replace he₅ : IsEnum h₅ e z ((i : Int) + 1) (.ref hp.objs.size) := he₅
    show wpAny _ _ (Builtin.SmallTypes.ownedTupleHandOut (.ref e) (.ref (hp.objs.size + 1)) >>= _) _ _ ⟨h₅, g, d, tk + 1, os⟩
    refine wpAny_bind ?_
    · unfold Builtin.SmallTypes.ownedTupleHandOut
      refine wpAny_bind (wpAny_setField_rec he₅ (by simp) fun h₆ he₆ hs₆ => ?_)
      replace hs₆ : Heap.SameBut e h₅ h₆ := hs₆
      replace he₆ : IsEnumOut h₆ e z ((i : Int) + 1) (.ref hp.objs.size) (hp.objs.size + 1) := he₆
      refine wpAny_setField_rec he₆ (by simp) fun h₇ he₇ hs₇ => ?_
      replace hs₇ : Heap.SameBut e h₆ h₇ := hs₇
      replace he₇ : IsEnumOut h₇ e z ((i : Int) + 1) (.ref hp.objs.size) (hp.objs.size + 1) := he₇
      refine wpAny_bind (wpAny_letGo (wpAny_pure ⟨_, rfl, hQ h₁ h₇ tk x y y1 y2 z1 o1 u1 u2 hT sz1 kp1 he₇ ?_ ?_ ?_⟩))
      · exact hs₇.extBut _ _ (Nat.ne_of_gt hel) (hs₆.extBut _ _ (Nat.ne_of_gt hel) (hs₅.extBut _ _ (Nat.ne_of_gt hel) ht₄))
      · rw [hs₇.1, hs₆.1, hs₅.1, hz₄]
      · exact fun b o hbe hb => hs₇.extBut b o hbe (hs₆.extBut b o hbe (hs₅.extBut b o hbe (hk₄ b o hbe hb)))
theorem next_ez {e : Addr} {i : Nat} {old : Value} (hh : A.handled = none) (D : Zap z TI TO i1 i2 l1 l2) (De : Eap e z TI TO i1 i2 l1 l2) (I1 : Inn prog w i1 l1 n1 Y1 t1) (I2 : Inn prog w i2 l2 n2 Y2 t2) {Q : Option Value → Shared → Prop}
    (he : IsEnum s.heap e z i old) (hz : ZS s.heap z TI TO) (hTI : IsPair s.heap TI (.ref i1) (.ref i2)) (hTO : ∃ a b, IsPair s.heap TO a b) (h1 : t1 i s.heap) (h2 : t2 i s.heap) (k1 : i < n1) (k2 : i < n2)
    (hQ : ∀ g h' tk x y, Y1 i x → Y2 i y → ZS g z TI TO → (∃ a b, IsPair g TO a b) → t1 (i + 1) g → t2 (i + 1) g → IsPair g s.heap.objs.size x y → g.objs.size = s.heap.objs.size + 1 →
      (∀ c o, c ≠ z → c ≠ TO → c ≠ i1 → c ≠ i2 → s.heap.get? c = some o → g.get? c = some o) →
      IsEnumOut h' e z ((i : Int) + 1) (.ref s.heap.objs.size) (s.heap.objs.size + 1) → h'.get? (s.heap.objs.size + 1) = some { cls := .type "tuple", data := .seq #[.int i tk, .ref s.heap.objs.size] } → h'.objs.size = s.heap.objs.size + 2 →
      (∀ b o, b ≠ e → g.get? b = some o → h'.get? b = some o) → Q (some (.ref (s.heap.objs.size + 1))) { s with heap := h', toks := tk + 1 }) :
    wpAny (model prog w) A (pyNext (.ref e)) Q E s := by
  have hT : s.TypeIs (.ref e) "enumerate" := ⟨_, he, rfl⟩
  unfold pyNext
  exact wpAny_bind (wpAny_attempt (wpAny_callSpecial?_slot (name := Str.ofString "__next__") hT F.slot_enumerate_next
    (wpAny_call_entry F.slot_enumerate_next hT F.entry_enumerate_next
      (ez_item (A := A.in1) hh D De I1 I2 he hz hTI hTO h1 h2 k1 k2 fun g h' tk x y a1 a2 a3 a4 a5 a6 a7 a8 a9 b1 b2 b3 b4 => wpAny_pure (hQ g h' tk x y a1 a2 a3 a4 a5 a6 a7 a8 a9 b1 b2 b3 b4)) (F.args_enumerate_next_1 _))))
theorem next_ez_end {e : Addr} {i : Int} {k : Nat} {old : Value} (hh : A.handled = none) (D : Zap z TI TO i1 i2 l1 l2) (I1 : Inn prog w i1 l1 n1 Y1 t1) (I2 : Inn prog w i2 l2 n2 Y2 t2) {Q : Option Value → Shared → Prop}
    (he : IsEnum s.heap e z i old) (hz : ZS s.heap z TI TO) (hTI : IsPair s.heap TI (.ref i1) (.ref i2)) (hTO : ∃ a b, IsPair s.heap TO a b) (h1 : t1 k s.heap) (h2 : t2 k s.heap) (hk : k = min n1 n2)
    (hQ : ∀ h' t', (∀ c o, c ≠ z → c ≠ TO → c ≠ i1 → c ≠ i2 → s.heap.get? c = some o → h'.get? c = some o) → Q none { s with heap := h', toks := t' }) : wpAny (model prog w) A (pyNext (.ref e)) Q E s := by
  have hT : s.TypeIs (.ref e) "enumerate" := ⟨_, he, rfl⟩
  unfold pyNext
  refine wpAny_bind (wpAny_attempt (wpAny_callSpecial?_slot (name := Str.ofString "__next__") hT F.slot_enumerate_next
    (wpAny_call_entry F.slot_enumerate_next hT F.entry_enumerate_next ?_ (F.args_enumerate_next_1 _))))
  show wpAny _ _ (field (.ref e) 2 >>= _) _ _ _
  refine wpAny_bind (wpAny_field he rfl (x := .ref z) rfl ?_)
  refine wpAny_bind (nextOf_zz_end (A := A.in1) hh D I1 I2 hz hTI hTO h1 h2 hk fun h' t' x he' hx' => ?_)
  obtain ⟨o, ho, hc⟩ := hx'
  refine wpAny_bind (wpAny_isInstance (T := "StopIteration") (b := true) ⟨o, ho, hc⟩ isSubtype_stop ?_)
  exact wpAny_pure (hQ _ _ he')
end
def ItEZ (n : Nat) (G : Hp → Prop) (V1 V2 : Nat → V → Prop) : It :=
  ⟨fun i H => i < n ∧ G H, fun i H v H' => ∃ T U x y, v = .ref U ∧ H T = none ∧ upd H T (.tup [x, y]) U = none ∧ U ≠ T ∧ H' = upd (upd H T (.tup [x, y])) U (.tup [.int (i : Nat), .ref T]) ∧ V1 i x ∧ V2 i y, fun i H => i = n ∧ G H⟩
theorem turn_ez {P : Program} {w : World} {K : Frag} {elts : List Expr} {kk : Nat} {tpos : Pos} {n1 n2 : Nat} {V1 V2 : Nat → V → Prop} {t1 t2 : Nat → Heap → Prop} {e z TI TO i1 i2 : Addr} {l1 l2 : List Addr} {G1 G2 : Hp → Prop} (D : Zap z TI TO i1 i2 l1 l2) (De : Eap e z TI TO i1 i2 l1 l2)
    (k1 : Kd P w K i1 l1 n1 G1 V1 t1) (k2 : Kd P w K i2 l2 n2 G2 V2 t2) : Turn P w K (.Tuple elts kk tpos) (ItEZ (min n1 n2) (fun H => G1 H ∧ G2 H) V1 V2) [e, z, TI, TO, i1, i2] e
      (fun i h => (∃ old, IsEnum h e z ((i : Nat) : Int) old) ∧ ZS h z TI TO ∧ IsPair h TI (.ref i1) (.ref i2) ∧ (∃ x y, IsPair h TO x y) ∧ t1 i h ∧ t2 i h) where
  mem := by simp
  obj := fun i h st c hc => by
    obtain ⟨⟨old, he⟩, ⟨own, f, ho, hz⟩, hTI, ⟨x, y, hTO⟩, h1, h2⟩ := st
    simp only [List.mem_cons, List.not_mem_nil, or_false] at hc
    rcases hc with rfl | rfl | rfl | rfl | rfl | rfl
    · exact ⟨_, he, fun v q => nomatch q⟩
    · exact ⟨_, hz, fun v q => nomatch q⟩
    · exact ⟨_, hTI, fun v q => nomatch q⟩
    · exact ⟨_, hTO, fun v q => nomatch q⟩
    · exact k1.obj i h h1
    · exact k2.obj i h h2
  keep := fun i h h' st k => by
    obtain ⟨⟨old, he⟩, ⟨own, f, ho, hz⟩, hTI, ⟨x, y, hTO⟩, h1, h2⟩ := st
    exact ⟨⟨old, k e (by simp) _ he⟩, ⟨own, f, ho, k z (by simp) _ hz⟩, k TI (by simp) _ hTI, ⟨x, y, k TO (by simp) _ hTO⟩, k1.keep i h h' h1 (k i1 (by simp)), k2.keep i h h' h2 (k i2 (by simp))⟩
  item := by
    intro X hP hw hK hc i pins s σ H E I hf st hg
    obtain ⟨⟨old, he⟩, hz, hTI, hTO, h1, h2⟩ := st
    obtain ⟨hi, g1, g2⟩ := hg
    obtain ⟨Y1, s1, J1, q1, r1⟩ := k1.inn X pins σ s H hP hw hK I g1
    obtain ⟨Y2, s2, J2, q2, r2⟩ := k2.inn X pins σ s H hP hw hK I g2
    subst hP hw hK
    have hel : e < s.heap.objs.size := Heap.lt_size he
    obtain ⟨⟨nTIz, nTOz, n1z, n2z⟩, ⟨nTOTI, n1TI, n2TI⟩, _, _⟩ := D.ne
    have ez : e ≠ z := fun q => De.ne (by simp [q])
    have eTI : e ≠ TI := fun q => De.ne (by simp [q])
    have eTO : e ≠ TO := fun q => De.ne (by simp [q])
    have e1 : e ≠ i1 := fun q => De.ne (by simp [q])
    have e2 : e ≠ i2 := fun q => De.ne (by simp [q])
    have lts : ∀ c ∈ [e, z, TI, TO, i1, i2], c < s.heap.objs.size := fun c hcm => by
      simp only [List.mem_cons, List.not_mem_nil, or_false] at hcm
      rcases hcm with rfl | rfl | rfl | rfl | rfl | rfl
      · exact hel
      · obtain ⟨_, _, _, q⟩ := hz; exact Heap.lt_size q
      · exact Heap.lt_size hTI
      · obtain ⟨_, _, q⟩ := hTO; exact Heap.lt_size q
      · obtain ⟨_, q, _⟩ := k1.obj _ _ h1; exact Heap.lt_size q
      · obtain ⟨_, q, _⟩ := k2.obj _ _ h2; exact Heap.lt_size q
    refine next_ez (I.ok.hd hc) D De J1 J2 he hz hTI hTO ⟨h1, q1⟩ ⟨h2, q2⟩ (by omega) (by omega) fun g h' tk u u2 y1 y2 zg og ug vg hT szg kg eo hU szh kh => ?_
    refine ⟨_, rfl, wpAny_letOwnedTupleGo_enum (s := { s with heap := h', toks := tk + 1 }) eo fun h'' he' sb => ?_⟩
    obtain ⟨x, ru, vx⟩ := r1 i u y1
    obtain ⟨y, ru2, vy⟩ := r2 i u2 y2
    have kk : ∀ b o, b ≠ e → g.get? b = some o → h''.get? b = some o := fun b o hb q => (sb.2 b hb).trans (kh b o hb q)
    have nT : e ≠ s.heap.objs.size := Nat.ne_of_lt hel
    have nU : e ≠ s.heap.objs.size + 1 := Nat.ne_of_lt (Nat.lt_succ_of_lt hel)
    have newT : ObjOk X.prog X.w (upd H s.heap.objs.size (.tup [x, y])) g s.heap.objs.size (.tup [x, y]) := ⟨by show 2 ≤ sizeLine; decide, [u, u2], .cons ru (.cons ru2 .nil), ⟨_, hT, rfl, _, rfl⟩⟩
    have I1 : Inv X pins σ (upd H s.heap.objs.size (.tup [x, y])) { s with heap := g, toks := tk } :=
      I.turnedNew (t' := tk) (ch := [e, z, TI, TO, i1, i2]) (fun c o hb q => kg c o (fun q' => hb (by simp [q'])) (fun q' => hb (by simp [q'])) (fun q' => hb (by simp [q'])) (fun q' => hb (by simp [q'])) q) hf (Nat.le_refl _) newT
    have hU2 : h''.get? (s.heap.objs.size + 1) = some { cls := .type "tuple", data := .seq #[.int i tk, .ref s.heap.objs.size] } := (sb.2 _ nU.symm).trans hU
    have newU : ObjOk X.prog X.w (upd (upd H s.heap.objs.size (.tup [x, y])) (s.heap.objs.size + 1) (.tup [.int (i : Nat), .ref s.heap.objs.size])) h'' (s.heap.objs.size + 1) (.tup [.int (i : Nat), .ref s.heap.objs.size]) :=
      ⟨by show 2 ≤ sizeLine; decide, [.int i tk, .ref s.heap.objs.size], .cons ⟨_, rfl⟩ (.cons (show RelV (.ref s.heap.objs.size) (.ref s.heap.objs.size) from rfl) .nil), ⟨_, hU2, rfl, _, rfl⟩⟩
    have f1 : ∀ b ∈ [e], FpOk X pins (upd H s.heap.objs.size (.tup [x, y])) b := fun b hb => by
      have q : b = e := by simpa using hb
      subst q
      have := hf b (by simp)
      exact ⟨by rw [upd_ne nT]; exact this.1, this.2⟩
    have I2 : Inv X pins σ (upd (upd H s.heap.objs.size (.tup [x, y])) (s.heap.objs.size + 1) (.tup [.int (i : Nat), .ref s.heap.objs.size])) { s with heap := h'', toks := tk + 1 } :=
      I1.turnedNew (s := { s with heap := g, toks := tk }) (t' := tk + 1) (ch := [e]) (fun c o hb q => kk c o (fun q' => hb (by simp [q'])) q) f1 (show g.objs.size ≤ s.heap.objs.size + 1 by rw [szg]; exact Nat.le_refl _) newU
    refine ⟨.ref (s.heap.objs.size + 1), _, I2, rfl, ⟨s.heap.objs.size, s.heap.objs.size + 1, x, y, rfl, I.hok.fresh (Nat.le_refl _), ?_, Nat.succ_ne_self _, rfl, vx, vy⟩, ⟨⟨_, he'⟩, ?_, ?_, ?_, ?_, ?_⟩, fun c hcm => ?_⟩
    · rw [upd_ne (Nat.succ_ne_self _)]; exact I.hok.fresh (Nat.le_succ _)
    · obtain ⟨own, f, ho, q⟩ := zg
      exact ⟨own, f, ho, kk _ _ ez.symm q⟩
    · exact kk _ _ eTI.symm (kg _ _ nTIz nTOTI.symm n1TI.symm n2TI.symm hTI)
    · obtain ⟨a, b, q⟩ := og
      exact ⟨a, b, kk _ _ eTO.symm q⟩
    · exact k1.keep _ _ _ ug.1 fun o q => kk _ _ e1.symm q
    · exact k2.keep _ _ _ vg.1 fun o q => kk _ _ e2.symm q
    · have hlt := lts c hcm
      rw [upd_ne (Nat.ne_of_lt (Nat.lt_succ_of_lt hlt)), upd_ne (Nat.ne_of_lt hlt)]
      exact (hf c hcm).1
  done := by
    intro X hP hw hK hc i pins s σ H E I hf st hg
    obtain ⟨⟨old, he⟩, hz, hTI, hTO, h1, h2⟩ := st
    obtain ⟨hi, g1, g2⟩ := hg
    obtain ⟨Y1, s1, J1, q1, r1⟩ := k1.inn X pins σ s H hP hw hK I g1
    obtain ⟨Y2, s2, J2, q2, r2⟩ := k2.inn X pins σ s H hP hw hK I g2
    subst hP hw hK
    exact next_ez_end (I.ok.hd hc) D J1 J2 he hz hTI hTO ⟨h1, q1⟩ ⟨h2, q2⟩ hi fun h' tk hk => ⟨rfl, I.turnedL (t' := tk) (ch := [e, z, TI, TO, i1, i2]) (fun c o hb q => hk c o (fun q' => hb (by simp [q'])) (fun q' => hb (by simp [q'])) (fun q' => hb (by simp [q'])) (fun q' => hb (by simp [q'])) q) hf⟩
  self := fun A i s Q E st h => let ⟨⟨_, he⟩, _⟩ := st; wpAny_pyIter_enum he h
def gEnumZ (ds : List D) : Option (List D) := (gZip ds).map (enumD 0)
theorem gEnumZ_of {ds xs : List D} (h : gEnumZ ds = some xs) : ∃ a b as bs, ds = [a, b] ∧ iD a = some as ∧ iD b = some bs ∧ xs = enumD 0 (zipD as bs) := by
  unfold gEnumZ at h
  cases q : gZip ds with
  | none => rw [q] at h; cases h
  | some ys =>
    rw [q] at h
    cases h
    obtain ⟨a, b, as, bs, h1, h2, h3, rfl⟩ := gZip_of q
    exact ⟨a, b, as, bs, h1, h2, h3, rfl⟩
section
variable {prog : Program} {w : World} {A : Around} {E : Value → Shared → Prop} {s : Shared}
theorem meets_enumS (z TI TO : Addr) :
    Meets (Builtin.«enumerate.__new__» ⟨[.type "enumerate", .ref z], []⟩) (fun _ R s => IsZip s.heap z TI TO .none ∧ R (.ok (.ret (.ref s.heap.objs.size)))
      { s with heap := s.heap.push { cls := .type "enumerate", data := .fields #[.none, .bool false, .ref z, rawInt 0, .none, .none] } }) :=
  .of_wp fun prog w A R s h => by
    obtain ⟨hp, gg, d, tk, os⟩ := s
    obtain ⟨hl, h⟩ := h
    have hsub := sub_enumerate
    have a1 := fun (A : Around) Q E => wpAny_pyIter_zip (prog := prog) (w := w) (A := A) (E := E) (Q := Q) (s := ⟨hp, gg, d, tk, os⟩) hl
    wp_walk
    refine wpAny_stack_any fun st => wpAny_pure ?_
    split
    · rename_i c _ _ _ _ _
      cases (c == Value.type "enumerate")
      · wp_walk using a1 _ _ _
        exact ⟨_, rfl, h⟩
      · wp_walk using a1 _ _ _
        exact ⟨_, rfl, h⟩
    · wp_walk using a1 _ _ _
      exact ⟨_, rfl, h⟩
theorem call_enumZ {z TI TO : Addr} (hz : IsZip s.heap z TI TO .none) {Q : Value → Shared → Prop}
    (h : ∀ h', IsEnum h' s.heap.objs.size z 0 .none → (∀ b o, s.heap.get? b = some o → h'.get? b = some o) → Q (.ref s.heap.objs.size) { s with heap := h' }) :
    wpAny (model prog w) A (call (.type "enumerate") [.ref z]) Q E s := by
  refine callType_new F.called_enumerate (by decide) (F.typeCall_enumerate_1 _) (F.newCall_enumerate_1 _) (fun obj => F.args_object_init_2 obj _) F.entry_enumerate_new (meets_enumS z TI TO) ⟨hz, ?_⟩
  have e2 : (s.heap.push { cls := .type "enumerate", data := .fields #[.none, .bool false, .ref z, rawInt 0, .none, .none] }).get? s.heap.objs.size = some _ := Heap.get?_push_size _ rfl
  exact ⟨⟨_, e2, rfl⟩, h _ e2 fun b o x => Heap.get?_push_of_some _ x⟩
end
section
variable {X : Cx} {W : WX}
theorem si_enumZ {a b : Expr} {q : XA} {p p2 pos pos2 tpos : Pos} {elts : List Expr} {kk : Nat} (hg : Gl X "enumerate") (hm : X.mg "enumerate" = none) (hg2 : Gl X "zip") (hm2 : X.mg "zip" = none) (ha : SA X W [a, b] q)
    (hs : starEach [a, b] X.env = (false, eval a X.env) :: starEach [b] X.env := by rfl) (hpl : (backTo pos2 (starEach [b] X.env)).any (·.1) = false := by rfl)
    (he : starEach [.Call (.Name "zip" p2) [a, b] [] pos2] X.env = (false, eval (.Call (.Name "zip" p2) [a, b] [] pos2) X.env) :: starEach [] X.env := by rfl) :
    SI X W (.Tuple elts kk tpos) (.Call (.Name "enumerate" p) [.Call (.Name "zip" p2) [a, b] [] pos2] [] pos) (iArgs gEnumZ q) := by
  refine ⟨fun pins s σ H R I ⟨B, e, Z, R0, hq⟩ => ?_⟩
  have h1 : RA X.K X.mg W q σ H fun vs H1 => ∃ v w as bs, vs = [v, w] ∧ ∃ Z1, Same Z1 H1 ∧ Zp X Z1 v as ∧ Zp X Z1 w bs ∧ ∀ J, Wk X.K Z1 J (enumD 0 (zipD as bs)) → R J H1 := by
    refine rg_bind R0 hq fun v1 Z1 e1 d1 H1 s1 R1 D1 h1 => ?_
    obtain ⟨ds, e2, h2⟩ := pgi_lift h1
    obtain ⟨a', b', as, bs, rfl, ia, ib, rfl⟩ := gEnumZ_of e2
    obtain ⟨v, w, rfl, da, db⟩ := dpa_2 D1
    exact ⟨v, w, as, bs, rfl, Z1, R1.sub, zp_of da ia, zp_of db ib, fun J w => h2 J Z1 H1 (Same.refl _) R1 w⟩
  refine Call_ (ld_blt I hg hm boot_enumerate (PyProof.Rows.callWith_type1 ?_ he rfl))
  rw [he]
  refine Calls.spliced_cons ?_
  refine Call_ (ld_blt I hg2 hm2 PyProof.Rows.boot_zip (PyProof.Rows.callWith_type1 (thn (ha.run pos2 pins s σ H _ I h1) fun us s1 ⟨vs, H1, I1, r1, q1⟩ => ?_) hs hpl))
  obtain ⟨v, w, as, bs, rfl, Z1, sz, zv, zw, fin⟩ := q1
  cases r1 with
  | cons ra rr =>
    cases rr with
    | cons rb rr =>
      cases rr
      obtain ⟨o1, P1, G1, V1, l1, at1, g1, k1, p1, nf1, gg1, lt1, kd1, i01, y1⟩ := zv.ex _ s1 pins σ H1 ra I1 sz
      obtain ⟨o2, P2, G2, V2, l2, at2, g2, k2, p2, nf2, gg2, lt2, kd2, i02, y2⟩ := zw.ex _ s1 pins σ H1 rb I1 sz
      refine call_zipG k2 g1 g2 p1 p2 nf1 nf2 fun h0 hz hTI hTO h1 h2 hsz hk => Calls.spliced_nil ?_
      refine call_enumZ (s := { s1 with heap := h0 }) hz fun h' en hk2 => wpAny_pyIter_enum en ?_
      replace hk2 : ∀ b o, h0.get? b = some o → h'.get? b = some o := hk2
      replace en : IsEnum h' h0.objs.size (s1.heap.objs.size + 4) 0 .none := en
      have I2 : Inv X pins σ H1 { s1 with heap := h' } := I1.kept (t' := s1.toks) fun b o q => hk2 b o (hk b o q)
      have hle : @LE.le Nat _ (s1.heap.objs.size + 5) h0.objs.size := by rw [hsz]; exact Nat.le_refl _
      have ap : Zap (s1.heap.objs.size + 4) (s1.heap.objs.size + 2) (s1.heap.objs.size + 3) s1.heap.objs.size (s1.heap.objs.size + 1) l1 l2 := by
        refine ⟨?_, fun b hb hm => ?_, fun b hb hm => ?_⟩
        · simp
        · have lt := lt1 b hb
          simp only [List.mem_cons, List.not_mem_nil, or_false] at hm
          rcases hm with rfl | rfl | rfl | rfl | rfl <;> first | exact Nat.not_lt.mpr (Nat.le_add_right _ _) lt | exact Nat.lt_irrefl _ lt
        · have lt := lt2 b hb
          simp only [List.mem_cons, List.not_mem_nil, or_false] at hm
          rcases hm with rfl | rfl | rfl | rfl | rfl <;> first | exact Nat.not_lt.mpr (Nat.le_add_right _ _) lt | exact Nat.lt_irrefl _ lt
      have ape : Eap h0.objs.size (s1.heap.objs.size + 4) (s1.heap.objs.size + 2) (s1.heap.objs.size + 3) s1.heap.objs.size (s1.heap.objs.size + 1) l1 l2 := by
        refine ⟨fun hm => ?_, fun hm => ?_, fun hm => ?_⟩
        · simp only [List.mem_cons, List.not_mem_nil, or_false] at hm
          have hle2 : @LE.le Nat _ (s1.heap.objs.size + 5) h0.objs.size := hle
          rcases hm with q | q | q | q | q <;> (rw [q] at hle2; omega)
        · exact Nat.lt_irrefl _ (Nat.lt_of_lt_of_le (lt1 _ hm) (Nat.le_trans (Nat.le_add_right _ 5) hle))
        · exact Nat.lt_irrefl _ (Nat.lt_of_lt_of_le (lt2 _ hm) (Nat.le_trans (Nat.le_add_right _ 5) hle))
      refine ⟨h0.objs.size, [h0.objs.size, s1.heap.objs.size + 4, s1.heap.objs.size + 2, s1.heap.objs.size + 3, s1.heap.objs.size, s1.heap.objs.size + 1], _, _, H1, rfl, I2, turn_ez ap ape (kd1 _) (kd2 _),
        ⟨⟨_, en⟩, ⟨_, _, .inl rfl, hk2 _ _ hz⟩, hk2 _ _ hTI, ⟨_, _, hk2 _ _ hTO⟩, i01 _ _ (hk2 _ _ h1), i02 _ _ (hk2 _ _ h2)⟩, fun c hcm => ?_, fin _ ?_⟩
      · have hle2 : @LE.le Nat _ s1.heap.objs.size c := by
          simp only [List.mem_cons, List.not_mem_nil, or_false] at hcm
          rcases hcm with rfl | rfl | rfl | rfl | rfl | rfl <;> first | exact Nat.le_trans (Nat.le_add_right _ _) hle | exact Nat.le_add_right _ _ | exact Nat.le_refl _
        exact I1.fpOk hle2 (I1.hok.fresh hle2)
      · refine ⟨fun i H hi s => ⟨by rw [enumD_len, zipD_len] at hi; exact hi, gg1 H s, gg2 H s⟩, fun H s => ⟨by rw [enumD_len, zipD_len], gg1 H s, gg2 H s⟩, fun i H x H' B e σ Z2 hi s R hy => ?_⟩
        obtain ⟨T, U, x, y, rfl, nT, nU, hne, rfl, vx, vy⟩ := hy
        rw [enumD_len, zipD_len] at hi
        obtain ⟨d1, e1, D1⟩ := y1 i x (by omega) vx
        obtain ⟨d2, e2, D2⟩ := y2 i y (by omega) vy
        obtain ⟨R2, s2⟩ := R.new (o := .tup [x, y]) nT
        obtain ⟨R3, s3⟩ := R2.new (o := .tup [.int (i : Nat), .ref T]) nU
        have eg := enumD_get (zipD as bs) 0 i _ (zipD_get as bs i d1 d2 e1 e2)
        rw [Nat.zero_add] at eg
        have sT : upd (upd Z2 T (.tup [x, y])) U (.tup [.int (i : Nat), .ref T]) T = some (.tup [x, y]) := by rw [upd_ne hne.symm]; exact upd_same
        have D3 : Dq X.K (upd (upd Z2 T (.tup [x, y])) U (.tup [.int (i : Nat), .ref T])) (.ref T) (.tuple [d1, d2]) :=
          .tup (.inl (.inl sT)) (.cons (dp_mono (s.trans (s2.trans s3)) D1) (.cons (dp_mono (s.trans (s2.trans s3)) D2) .nil))
        exact ⟨_, _, s2.trans s3, R3, eg, .tup (.inl (.inl upd_same)) (.cons (.int _) (.cons D3 .nil))⟩
end
end G
set_option Elab.async false
set_option linter.all false
set_option maxRecDepth 100000
/-! sorted(set(list of ints)) -/
namespace G
open PySem PySem.Spec PyProof.Rows L2
section
variable {P : Program} {w : World} {A : Around} {E : Value → Shared → Prop} {s : Shared}
abbrev oSet0 (w : World) : Obj := { cls := .type "set", dict := none, data := .set #[] 0 (.fresh 0 0 (!w.params.followText "set-order")) }
/-- set.__init__ of a list of ints, of a set that is new -/
theorem init_setL {S l : Addr} {items : Array Value} {ns : List Int} {R : Result → Shared → Prop} (hh : A.handled = none) (hS : s.heap.get? S = some (oSet0 w)) (hl : s.heap.IsList l items) (hi : IntsAre items.toList ns) (hb : ns.length + 1 < scanBound)
    (hR : ∀ (h' : Heap) (tk c : Nat), SetR w h' S (fun j => decide (j ∈ ns)) c → (∀ b o, b ≠ S → s.heap.get? b = some o → h'.get? b = some o) → R (.ok (.ret .none)) { s with heap := h', toks := tk }) :
    codeAny (model P w) A (.call (.builtin "set.__init__") ⟨[.ref S, .ref l], []⟩) R s := by
  have typ : s.TypeIs (.ref S) "set" := ⟨_, hS, rfl⟩
  refine codeAny_call_builtin F.called_set.init.plain F.entry_set_init (check_set_init_1 typ ?_)
  have size : items.size = ns.length := by rw [← Array.length_toList]; exact IntsAre.length hi
  obtain ⟨⟨c0, d0, _, sl0⟩, ho, hc, cap, hd⟩ := id hl
  simp only at hc hd
  subst hc hd
  have neS : l ≠ S := fun q => by
    rw [q, hS] at ho
    have k := congrArg (fun o => o.map fun o : Obj => o.cls == .type "set") ho
    exact absurd k (by simp)
  have notD : (Value.type "list" == Value.type "dict") = false := rfl
  have sub1 := PySem.F.sub_list_set
  have sub2 := PySem.F.sub_list_frozenset
  obtain ⟨hp, g, d, tk, os⟩ := s
  unfold Builtin.«set.__init__» noKeywords Builtin.Frozenset.updateFrom
  generalize hf : pyIter = f
  wp_walk
  subst hf
  refine wpAny_pyIter_list hl (wpAny_bind (wpAny_runValue ?_))
  have lS : S < hp.objs.size := Heap.lt_size hS
  have ll : l < hp.objs.size := Heap.lt_size ho
  refine set_update_ints ((Walks.list (by simpa using hh) hp.objs.size l (Nat.ne_of_lt ll) items).toS) S (fun q => ?_) ns size hb (fun i v hv => ?_) (items.size - 0) 0 _ (by omega) (Nat.zero_le _)
    ⟨⟨_, Heap.get?_push_size _ rfl, rfl, rfl⟩, hl.push _⟩ ⟨0, Nat.le_refl _, setR_new_at (Heap.get?_push_of_some _ hS)⟩ fun s' c' mv _ hS' => ?_
  · rcases List.mem_cons.mp q with q | q
    · exact Nat.lt_irrefl _ (q ▸ lS)
    · exact neS (List.mem_singleton.mp q).symm
  · have lt : i < ns.length := by rw [← size]; exact (Array.getElem?_eq_some_iff.mp hv).1
    obtain ⟨t, e⟩ := PyProof.Rows.IntsAre.int_at hi i v (by rw [Array.getElem?_toList]; exact hv)
    exact ⟨_, t, List.getElem?_eq_getElem lt, by rw [e, List.getD_eq_getElem?_getD, List.getElem?_eq_getElem lt]; rfl⟩
  · rw [Moved.eq_with mv]
    refine wpAny_pure (wpAny_pure (hR s'.heap s'.toks c' hS' fun b o nb q => mv.heap b o (fun m => ?_) (Heap.get?_push_of_some _ q)))
    rcases List.mem_cons.mp m with m | m
    · exact nb m
    · exact Nat.lt_irrefl _ ((List.mem_singleton.mp m) ▸ Heap.lt_size q)
/-- T(..): made, then begun -/
theorem call_typ {T newId initId : String} {args : List Value} {Q Q₁ : Value → Shared → Prop} (ft : TypeCalled T newId initId) (chk : checkTypeCall T ⟨args, []⟩ = pure ()) (made : codeAny (model P w) A.in1 (.call (.builtin newId) ⟨.type T :: args, []⟩) (wants Q₁ E) s)
    (begun : ∀ obj s₁, Q₁ obj s₁ → s₁.TypeIs obj T ∧ codeAny (model P w) A.in1 (.call (.builtin initId) ⟨obj :: args, []⟩) (wants (fun r s₂ => r = .none ∧ Q obj s₂) E) s₁) : wpAny (model P w) A (call (.type T) args) Q E s := by
  obtain ⟨_, _, order⟩ := ft.mro
  have ⟨q1, q2, _, q3, _, q4, q5⟩ := ft
  refine wpAny_call (codeAny_of_tree (show wpAny _ _ (callAny (.type T) _) _ _ _ from wpAny_pure ⟨Code.quiet_builtin _ (by decide +kernel), codeAny_builtin F.entry_type_call ?_⟩))
  rw [Around.under_plain (weight_type_call_type T args []) rfl]
  repeat (any_goals (first | assumption | wp_step))
  refine codeAny_mono made fun r s₁ hr => ?_
  match r, hr with
  | .error _, hr => exact hr
  | .ok (.ret obj), hr =>
    have ⟨typ, go⟩ := begun obj s₁ hr
    have look := ft.init.lookup
    have bnd := ft.init.bind obj
    repeat (any_goals (first | assumption | wp_step))
    refine codeAny_mono go fun r₂ s₂ h2 => ?_
    match r₂, h2 with
    | .error _, h2 => exact h2
    | .ok (.ret _), ⟨e, q⟩ =>
      subst e
      repeat (any_goals (first | assumption | wp_step))
theorem call_set_listI {l : Addr} {items : Array Value} (ns : List Int) {Q : Value → Shared → Prop} (hh : A.handled = none) (hl : s.heap.IsList l items) (hi : IntsAre items.toList ns) (hb : ns.length + 1 < scanBound)
    (h : ∀ (h' : Heap) (tk c : Nat), SetR w h' s.heap.objs.size (fun j => decide (j ∈ ns)) c → (∀ b o, s.heap.get? b = some o → h'.get? b = some o) → Q (.ref s.heap.objs.size) { s with heap := h', toks := tk }) : wpAny (model P w) A (call (.type "set") [.ref l]) Q E s := by
  refine call_typ (Q₁ := fun obj s₁ => obj = .ref s.heap.objs.size ∧ s₁ = { s with heap := s.heap.push (oSet0 w) }) F.called_set (F.typeCall_set_1 _) (code_set_led1 _ ⟨rfl, rfl⟩) fun obj s₁ q => ?_
  obtain ⟨rfl, rfl⟩ := q
  have g0 : (s.heap.push (oSet0 w)).get? s.heap.objs.size = some (oSet0 w) := Heap.get?_push_size _ rfl
  exact ⟨⟨_, g0, rfl⟩, init_setL (s := { s with heap := s.heap.push (oSet0 w) }) (A := A.in1) (by simpa using hh) g0 (hl.push _) hi hb fun h' tk c hS k => ⟨rfl, h h' tk c hS fun b o q => k b o (Nat.ne_of_lt (Heap.lt_size q)) (Heap.get?_push_of_some _ q)⟩⟩
end
/-! the members in order -/
def insI (k : Int) : List Int → List Int
  | [] => [k]
  | x :: r => if k < x then k :: x :: r else if k = x then x :: r else x :: insI k r
def ascI (ns : List Int) : List Int := ns.foldr insI []
theorem mem_insI {k j : Int} : ∀ {l : List Int}, j ∈ insI k l ↔ j = k ∨ j ∈ l
  | [] => by simp [insI]
  | x :: r => by
    unfold insI
    split
    · simp
    · split
      · rename_i h; subst h; simp
      · rw [List.mem_cons, mem_insI (l := r), List.mem_cons]
        constructor
        · rintro (h | h | h) <;> simp [h]
        · rintro (h | h | h) <;> simp [h]
theorem asc_insI {k : Int} : ∀ {l : List Int}, l.Pairwise (· < ·) → (insI k l).Pairwise (· < ·)
  | [], _ => by simp [insI]
  | x :: r, h => by
    obtain ⟨h1, h2⟩ := List.pairwise_cons.mp h
    unfold insI
    split
    · rename_i q
      exact List.pairwise_cons.mpr ⟨fun y hy => by
        rcases List.mem_cons.mp hy with e | e
        · omega
        · have := h1 y e; omega, h⟩
    · split
      · exact h
      · rename_i q1 q2
        exact List.pairwise_cons.mpr ⟨fun y hy => by
          rcases mem_insI.mp hy with e | e
          · omega
          · exact h1 y e, asc_insI h2⟩
theorem mem_ascI {j : Int} : ∀ {ns : List Int}, j ∈ ascI ns ↔ j ∈ ns
  | [] => by simp [ascI]
  | x :: r => by
    show j ∈ insI x (ascI r) ↔ _
    rw [mem_insI, mem_ascI (ns := r), List.mem_cons]
theorem asc_ascI : ∀ (ns : List Int), (ascI ns).Pairwise (· < ·)
  | [] => by simp [ascI]
  | x :: r => asc_insI (asc_ascI r)
theorem asc_uniq : ∀ {a b : List Int}, a.Pairwise (· < ·) → b.Pairwise (· < ·) → (∀ j, j ∈ a ↔ j ∈ b) → a = b
  | [], [], _, _, _ => rfl
  | [], y :: b, _, _, h => by have := (h y).mpr (by simp); simp at this
  | x :: a, [], _, _, h => by have := (h x).mp (by simp); simp at this
  | x :: a, y :: b, ha, hb, h => by
    obtain ⟨a1, a2⟩ := List.pairwise_cons.mp ha
    obtain ⟨b1, b2⟩ := List.pairwise_cons.mp hb
    have exy : x = y := by
      have h1 := (h x).mp (by simp)
      have h2 := (h y).mpr (by simp)
      rcases List.mem_cons.mp h1 with e | e
      · exact e
      · rcases List.mem_cons.mp h2 with e' | e'
        · exact e'.symm
        · have := b1 x e; have := a1 y e'; omega
    subst exy
    refine congrArg _ (asc_uniq a2 b2 fun j => ⟨fun q => ?_, fun q => ?_⟩)
    · rcases List.mem_cons.mp ((h j).mp (by simp [q])) with e | e
      · have := a1 j q; omega
      · exact e
    · rcases List.mem_cons.mp ((h j).mpr (by simp [q])) with e | e
      · have := b1 j q; omega
      · exact e
theorem nodup_asc {a : List Int} (h : a.Pairwise (· < ·)) : a.Nodup := h.imp fun q => by omega
theorem len_of_mem {a b : List Int} (h1 : a.Nodup) (h2 : b.Nodup) (h : ∀ j, j ∈ a ↔ j ∈ b) : a.length = b.length := (((List.perm_ext_iff_of_nodup h1 h2).mpr h)).length_eq
section
variable {X : Cx} {W : WX}
def rSetLI (w : World) (K : Frag) : List V → Hp → VK → Prop := fun vs H Q => ∃ (l : Addr) (ns : List Int), vs = [.ref l] ∧ SqL K H l (ns.map V.int) ∧ ns.length + 1 < scanBound ∧
  ∀ p, H p = none → Q (.ref p) (upd H p (SetO w p (fun j => decide (j ∈ ns)) (ascI ns).length))
theorem cr_setLI (hc : X.calm = true) : CallR X (.type "set") (rSetLI X.w X.K) := by
  intro pins s σ H vs us Q I r h
  obtain ⟨l, ns, rfl, hs, hb, q⟩ := h
  obtain ⟨its, rv, hl, hz⟩ := I.list hs
  rw [Vals.ref1 r]
  refine call_set_listI ns (I.ok.hd hc) hl.isList (ints_of_vals rv) hb fun h' tk c hS k => ?_
  have ec : c = (ascI ns).length := by
    obtain ⟨o, es, ep, t, ho, h1, h2, h3, h4, h5, h6, h7, h8, _⟩ := hS
    have e1 : (es.toList.map keyOf).length = (ascI ns).length := len_of_mem h4 (nodup_asc (asc_ascI ns)) fun j => by
      rw [mem_ascI, ← h5 j]
      simp
    rw [List.length_map, Array.length_toList, h8] at e1
    exact e1
  subst ec
  exact ⟨.ref _, upd H s.heap.objs.size (SetO X.w s.heap.objs.size (fun j => decide (j ∈ ns)) (ascI ns).length), I.laid (t' := tk) k (Nat.le_refl _) (setO_new hS), rfl, q _ (I.hok.fresh (Nat.le_refl _))⟩
def gSetS : List D → Option (List D)
  | [.list xs] => match intsD xs with
    | some ns => if (ascI ns).length < 64 ∧ ns.length + 1 < scanBound then some ((ascI ns).map .int) else none
    | none => none
  | _ => none
theorem gSetS_of {ds xs : List D} (h : gSetS ds = some xs) : ∃ ys ns, ds = [.list ys] ∧ intsD ys = some ns ∧ (ascI ns).length < 64 ∧ ns.length + 1 < scanBound ∧ xs = (ascI ns).map .int := by
  unfold gSetS at h
  split at h
  · split at h
    · split at h
      · rename_i q
        cases h; exact ⟨_, _, rfl, by assumption, q.1, q.2, rfl⟩
      · cases h
    · cases h
  · cases h
theorem dpa_int {K : Frag} {Z : Hp} : ∀ (ns : List Int), DqAll K Z (ns.map V.int) (ns.map .int)
  | [] => .nil
  | n :: ns => .cons (.int n) (dpa_int ns)
theorem sn_sortSet {a : Expr} {q : XA} {p p2 pos pos2 : Pos} (hc : X.calm = true) (hg : Gl X "sorted") (hm : X.mg "sorted" = none) (hg2 : Gl X "set") (hm2 : X.mg "set" = none) (ha : SA X W [a] q)
    (hs : starEach [a] X.env = (false, eval a X.env) :: starEach [] X.env := by rfl) (hpl : (backTo pos2 (starEach [] X.env)).any (·.1) = false := by rfl)
    (he : starEach [.Call (.Name "set" p2) [a] [] pos2] X.env = (false, eval (.Call (.Name "set" p2) [a] [] pos2) X.env) :: starEach [] X.env := by rfl) :
    SN X W (.Call (.Name "sorted" p) [.Call (.Name "set" p2) [a] [] pos2] [] pos) (nCall gSetS q) := by
  refine PE.imp (pe_callB (cr_sortedSet hc) hg hm (by decide +kernel) (pa_cons (pe_callTy (cr_setLI hc) hg2 hm2 (by decide +kernel) ha (by decide) (by decide) hs hpl) pa_nil he) (by decide) (by decide) he rfl) fun σ H Q ⟨B, e, Z, R0, hq⟩ => ?_
  refine rn_bind R0 hq fun v1 Z1 e1 d1 H1 s1 R1 D1 h1 => ?_
  obtain ⟨ds, e2, h2⟩ := pgf_lift h1
  obtain ⟨ys, ns, rfl, hi, h64, hb, rfl⟩ := gSetS_of e2
  obtain ⟨v, rfl, hv⟩ := dpa_1 D1
  obtain ⟨l, ws, rfl, g1, g2⟩ := dp_list hv
  have ew := dpa_ints g2 hi
  subst ew
  refine ⟨l, ns, rfl, .inl (.inl (R1.sub _ _ g1)), hb, fun p hp => ?_⟩
  refine ⟨p, fun j => decide (j ∈ ns), _, rfl, upd_same, h64, fun ms q2 m1 m2 m3 hq2 => ?_⟩
  have em : ms = ascI ns := asc_uniq m1 (asc_ascI ns) fun j => by rw [m2 j, mem_ascI]; simp
  subst em
  exact pgf_new (R1.new0 hp) (dpa_int _) h2 q2 hq2
end
end G
set_option Elab.async false
set_option linter.all false
set_option maxRecDepth 100000
/-! list(text) -/
namespace G
open PySem PySem.Spec PyProof.Rows L2
theorem vals_of_get : ∀ {vs : List V} {us : List Value}, vs.length = us.length → (∀ (i : Nat) (v : V) (u : Value), vs[i]? = some v → us[i]? = some u → RelV v u) → Vals vs us
  | [], [], _, _ => .nil
  | [], _ :: _, h, _ => by simp at h
  | _ :: _, [], h, _ => by simp at h
  | v :: vs, u :: us, h, k => .cons (k 0 v u rfl rfl) (vals_of_get (by simpa using h) fun i a b h1 h2 => k (i + 1) a b (by simpa using h1) (by simpa using h2))
section
variable {X : Cx} {W : WX} {pos : Pos}
def rListS (xs : List V) (H : Hp) (Q : VK) : Prop := ∃ z : Str, xs = [.str z] ∧ z.cps.size ≤ sizeLine ∧ ∀ l, H l = none → Q (.ref l) (upd H l (.lst (z.cps.toList.map fun c => V.str ⟨#[c]⟩)))
theorem cr_listS (hc : X.calm = true) : CallR X (.type "list") rListS := by
  intro pins s σ H xs us Q I r h
  obtain ⟨z, rfl, hz, q⟩ := h
  obtain ⟨u, rfl, t, rfl⟩ := vals1 r
  refine call_list_str (hn := hz) (I.ok.hd hc) z t fun h' tk acc' c' hk hS ha => ?_
  have hv : Vals (z.cps.toList.map fun c => V.str ⟨#[c]⟩) acc'.toList := by
    refine vals_of_get (by rw [List.length_map, Array.length_toList, Array.length_toList, ha.1]) fun i v u h1 h2 => ?_
    obtain ⟨c, u', hc, rfl⟩ := ha.2 i u (by rw [← Array.getElem?_toList]; exact h2)
    rw [List.getElem?_map, Array.getElem?_toList, hc] at h1
    cases h1
    exact ⟨u', rfl⟩
  exact ⟨.ref _, upd H s.heap.objs.size (.lst (z.cps.toList.map fun c => V.str ⟨#[c]⟩)), I.laid (t' := tk) hk (Nat.le_refl _) (show ObjOk X.prog X.w _ h' _ (.lst _) from ⟨by rw [List.length_map, Array.length_toList]; exact hz, acc'.toList, c', hv, hS⟩), rfl, q _ (I.hok.fresh (Nat.le_refl _))⟩
def lDA : List D → Option (List D)
  | [.list xs] => some xs
  | [.tuple xs] => some xs
  | [.str z] => if z.cps.size ≤ sizeLine then some (z.cps.toList.map fun c => .str ⟨#[c]⟩) else none
  | _ => none
theorem dpa_chars {K : Frag} {Z : Hp} : ∀ (l : List Nat), DqAll K Z (l.map fun c => V.str ⟨#[c]⟩) (l.map fun c => PyData.str ⟨#[c]⟩)
  | [] => .nil
  | c :: l => .cons (.str _) (dpa_chars l)
theorem sn_listA {a : Expr} {q : XA} {p : Pos} (hc : X.calm = true) (hg : Gl X "list") (hm : X.mg "list" = none) (ha : SA X W [a] q) (he : starEach [a] X.env = (false, eval a X.env) :: starEach [] X.env := by rfl) (hpl : (backTo pos (starEach [] X.env)).any (·.1) = false := by rfl) : SN X W (.Call (.Name "list" p) [a] [] pos) (nCall lDA q) := by
  refine PE.imp (pe_callTy (callr_or call_list_of (cr_listS hc)) hg hm (by decide +kernel) ha (by decide) (by decide) he hpl) fun σ H Q ⟨B, e, Z, R0, hq⟩ => ?_
  refine rn_bind R0 hq fun v1 Z1 e1 d1 H1 s1 R1 D1 h1 => ?_
  obtain ⟨ds, e2, h2⟩ := pgf_lift h1
  unfold lDA at e2
  split at e2
  · cases e2
    obtain ⟨v, rfl, hv⟩ := dpa_1 D1
    obtain ⟨a, ws, rfl, g1, g2⟩ := dp_list hv
    exact .inl ⟨a, ws, rfl, .inl (.inl (.inl (R1.sub _ _ g1))), pgf_new R1 g2 h2⟩
  · cases e2
    obtain ⟨v, rfl, hv⟩ := dpa_1 D1
    obtain ⟨a, ws, rfl, g1, g2⟩ := dp_tuple hv
    exact .inl ⟨a, ws, rfl, .inr (same_tup R1.sub g1), pgf_new R1 g2 h2⟩
  · split at e2
    · rename_i hz
      cases e2
      obtain ⟨v, rfl, hv⟩ := dpa_1 D1
      cases dp_str hv
      exact .inr ⟨_, rfl, hz, pgf_new R1 (dpa_chars _) h2⟩
    · cases e2
  · cases e2
end
end G
set_option Elab.async false
set_option linter.all false
set_option maxRecDepth 100000
/-! x or y by truth; a tuple's slice that may be the whole -/
namespace G
open PySem PySem.Spec PyProof.Rows L2
section
variable {X : Cx} {W : WX} {pos : Pos}
def eOrT (p q : XE) : XE := fun e => (p e).bind fun d e1 => match dTru d with
  | some true => .ok d e1
  | some false => q e1
  | none => .bad
theorem tru_of {K : Frag} {Z H : Hp} {v : V} {d : D} {b : Bool} (s : Same Z H) (h : Dq K Z v d) (e : dTru d = some b) : TruV K v H b := by
  have emp : ∀ {vs : List V} {ds : List D}, DqAll K Z vs ds → (!ds.isEmpty) = !vs.isEmpty := fun k => by cases k <;> rfl
  cases h with
  | non => cases e; rfl
  | bl _ => cases e; rfl
  | int _ => cases e; rfl
  | str z =>
    have e : (if z.length ≤ sizeLine then some (z.length != 0) else none) = some b := e
    by_cases hz : z.length ≤ sizeLine
    · rw [if_pos hz] at e
      cases e
      refine ⟨hz, ?_⟩
      rw [Bool.eq_iff_iff, bne_iff_ne, bne_iff_ne]
      omega
    · rw [if_neg hz] at e
      cases e
  | lst q a => cases e; exact .inl ⟨_, .inl (.inl (s _ _ q)), emp a⟩
  | tup q a => cases e; exact .inr (.inl ⟨_, same_tup s q, emp a⟩)
theorem se_orT {a b : Expr} {rest : List Expr} {p q : XE} (ha : SE X W a p) (hb : SE X W (.BoolOp .Or (b :: rest) pos) q) : SE X W (.BoolOp .Or (a :: b :: rest) pos) (eOrT p q) := by
  refine PE.imp (pe_orT ha hb) fun σ H Q ⟨B, e, Z, R0, hq⟩ => ?_
  refine rg_bind R0 hq fun v1 Z1 e1 d1 H1 s1 R1 D1 h1 => ?_
  cases ht : dTru d1 with
  | none => rw [ht] at h1; exact h1.elim
  | some b =>
    rw [ht] at h1
    refine ⟨b, tru_of R1.sub D1 ht, ?_⟩
    cases b with
    | true => rw [if_pos rfl]; exact h1 _ Z1 H1 (Same.refl _) R1 D1
    | false => rw [if_neg (by decide)]; exact ⟨B, e1, Z1, R1, h1⟩
/-- a slice; of a tuple the whole is the tuple itself -/
def dSlA : D → Option Int → Option Int → Option D
  | .list xs, lo, hi => some (.list (cutD xs lo hi))
  | .tuple xs, lo, hi => some (.tuple (cutD xs lo hi))
  | .str z, lo, hi => if z.length ≤ sizeLine then some (.str (cutS z lo hi)) else none
  | _, _, _ => none
theorem cut_whole {xs : List D} {lo hi : Option Int} (h : HT.sIx xs.length 0 lo = 0 ∧ HT.sIx xs.length xs.length hi = xs.length) : cutD xs lo hi = xs := by
  unfold cutD
  rw [h.1, h.2, List.drop_zero, Nat.sub_zero, List.take_of_length_le (Nat.le_refl _)]
theorem ok_slA {K : Frag} : OkS K (fun x lo hi H Q => (rSlL K x lo hi H Q ∨ rSlA K x lo hi H Q) ∨ ∃ z, x = .str z ∧ z.length ≤ sizeLine ∧ Q (.str (cutS z lo hi)) H) dSlA := by
  intro Z H x c lo hi d Q s D1 e k
  unfold dSlA at e
  split at e
  · cases e
    obtain ⟨a, ws, rfl, h1, h2⟩ := dp_list D1
    refine .inl (.inl ⟨a, ws, rfl, .inl (.inl (s _ _ h1)), fun p hp => ?_⟩)
    have n := Nw.new (o := .lst (cutV ws lo hi)) s hp
    exact k _ _ _ n (.lst upd_same (dpa_mono n.z (dpa_cut h2)))
  · cases e
    obtain ⟨a, ws, rfl, h1, h2⟩ := dp_tuple D1
    have el := dpa_len h2
    refine .inl (.inr ⟨a, ws, rfl, same_tup s h1, fun hw => ?_, fun hw p hp => ?_⟩)
    · rw [el] at hw
      have q := k (.ref a) Z H (Nw.refl s)
      rw [cut_whole hw] at q
      exact q (.tup h1 h2)
    · have n := Nw.new (o := .tup (cutV ws lo hi)) s hp
      exact k _ _ _ n (.tup (.inl (.inl upd_same)) (dpa_mono n.z (dpa_cut h2)))
  · split at e
    · rename_i hl
      cases e
      cases dp_str D1
      exact .inr ⟨_, rfl, hl, k _ Z H (Nw.refl s) (.str _)⟩
    · cases e
  · cases e
theorem se_sliceA {a : Expr} {lo hi : Option Expr} {p2 : Pos} {p : XE} {l u : XO} (ha : SE X W a p) (hl : SO X W lo l) (hu : SO X W hi u) : SE X W (.Subscript a (.Slice lo hi none p2) pos) (eSl dSlA p l u) :=
  se_sl ok_slA (pe_slice (.or (.or sl_list sl_tupA) sl_str) ha hl hu)
end
end G
set_option Elab.async false
set_option linter.all false
set_option maxRecDepth 100000
/-! sorted(tuple); x or y by truth; a tuple's slice that may be the whole -/
namespace G
open PySem PySem.Spec PyProof.Rows L2 PySem.W
section
variable {prog : Program} {w : World} {A : Around} {E : Value → Shared → Prop} {s : Shared}
theorem collect_tup {l : Addr} {vs : List Value} {Q : List Value → Shared → Prop} (ht : s.heap.IsTuple l vs.toArray) (hz : vs.length ≤ sizeLine)
    (q : Q vs { s with heap := (s.heap.push (seqObj "list" #[] 0)).update s.heap.objs.size (Obj.mapSeq (· ++ vs.toArray)) }) : wpAny (model prog w) A (collect (.ref l)) Q E s := by
  obtain ⟨o, ho, hc, n, hd⟩ := id ht
  have new := Heap.get?_push_size s.heap (o := seqObj "list" #[] 0) rfl
  have old := Heap.get?_push_of_some (seqObj "list" #[] 0) ho
  unfold collect
  refine wpAny_bind (wpAny_runValue (codeAny_builtin entry_proto_collect' ?_))
  refine wpAny_bind (m := newList []) (wpAny_newList (wpAny_pure ⟨Code.quiet_builtin _ (by decide +kernel), codeAny_builtin entry_list_iadd' ?_⟩))
  show wpAny _ _ (Builtin.List.listExtendWith _ _ _) _ _ _
  unfold Builtin.List.listExtendWith
  refine wpAny_bind (wpAny_typeOf (T := "tuple") ⟨o, old, hc⟩ ?_)
  rw [if_pos (by simp)]
  refine wpAny_bind (listItems_at old hd (wpAny_bind (listItems_at new rfl ?_)))
  rw [if_neg (by simp)]
  refine wpAny_bind (listUpdate_at new rfl (wpAny_pure ?_) (Nat.zero_le _) (by simp; omega))
  refine wpAny_bind (m := load s.heap.objs.size) (wpAny_load (get?_update_seq new _) ?_)
  exact wpAny_pure (by simpa using q)
theorem sorted_tup {R : Value → V × D → Prop} {l : Addr} {vs : List Value} {ps : List (V × D)} {Q : Value → Shared → Prop} (ht : s.heap.IsTuple l vs.toArray) (e : EachIs R vs ps) (er : EachIs (fun v p => ∃ as, Reads s.heap v p.2 as) vs ps) (o1 : AllAlike (ps.map (·.2))) (o2 : Sortable (ps.map (·.2))) (oz : ps.length ≤ sizeLine)
    (ou : ∀ p, p ∈ ps → A.units + 2 + p.2.depth < cLine) (h : ∀ out, EachIs R out (ps.mergeSort (PySem.W.dataLe false (·.2))) → Q (.ref (s.heap.objs.size + 1)) { s with heap := sortedAll s.heap vs (List.toArray out) }) : wpAny (model prog w) A (call (.builtin "sorted") [.ref l]) Q E s := by
  have vz : vs.length ≤ sizeLine := by rw [e.length]; exact oz
  have er2 : EachIs (fun v p => ∃ as, Reads (sortingHeap (copyHeap s.heap vs) (s.heap.objs.size + 1) vs) v p.2 as) vs ps := er.mono fun _ _ ⟨as, r⟩ => ⟨as, PyProof.Rows.Reads.keeps (fun _ _ => sorting_copy_old) r⟩
  refine call_function_entry_kw kind_sorted plain_sorted entry_sorted (args_sorted1 _) ?_
  unfold Builtin.«sorted»
  refine wpAny_bind (m := checkCount "sorted" 1 1 _) (wpAny_pure (wpAny_bind (collect_tup ht vz (wpAny_bind (wpAny_newList ?_ vz)))))
  have size : ((s.heap.push (seqObj "list" #[] 0)).update s.heap.objs.size (Obj.mapSeq (· ++ vs.toArray))).objs.size = s.heap.objs.size + 1 := by rw [Heap.size_update, size_push']
  show wpAny _ _ _ _ _ { s with heap := copyHeap s.heap vs }
  rw [size]
  have S := SortsAt.data (prog := prog) (w := w) (A := A.in1.in1) (s := { s with heap := sortingHeap (copyHeap s.heap vs) (s.heap.objs.size + 1) vs }) (each_map (R := fun v d => ∃ as, Reads (sortingHeap (copyHeap s.heap vs) (s.heap.objs.size + 1) vs) v d as) (fun p : V × D => p.2) er2) o1 o2 (bound_map ou)
  refine wpAny_bind (wpAny_holding (wpAny_call_entry_kw slot_list_sort ⟨_, copyHeap_at s.heap vs, rfl⟩ entry_list_sort ?_ (args_list_sort _)))
  exact list_sort_vals (s := { s with heap := copyHeap s.heap vs }) (copyHeap_at s.heap vs) S vz ⟨_, rfl, wpAny_pure ⟨_, rfl, h _ (sortVals_data false e er2 o1)⟩⟩
end
section
variable {X : Cx} {W : WX} {pos : Pos}
def rSortT (K : Frag) : List V → Hp → VK → Prop := fun vs H Q => ∃ (a : Addr) (ps : List (V × D)), vs = [.ref a] ∧ SqT K H a (ps.map (·.1)) ∧ (∀ p ∈ ps, Dp K H p.1 p.2) ∧ sortable (ps.map (·.2)) = true ∧
  ∀ q, H q = none → Q (.ref q) (upd H q (.lst ((ps.mergeSort (PySem.W.dataLe false (·.2))).map (·.1))))
theorem cr_sortT (hu : X.A.units + 64 < cLine) : CallR X (.builtin "sorted") (rSortT X.K) := by
  intro pins s σ H vs us Q I r h
  obtain ⟨a, ps, rfl, hs, hp, ho, q⟩ := h
  obtain ⟨its, rv, ht, hz⟩ := I.tuple hs
  rw [Vals.ref1 r]
  obtain ⟨o1, o2, o3, o4⟩ := sortable_of ho
  have ev := each_vals rv
  refine sorted_tup (R := fun u (p : V × D) => RelV p.1 u) ht ev (each_reads I ev hp) o1 o2 (by rw [List.length_map] at o4; exact o4) (fun p hp => by have := o3 p.2 (List.mem_map.mpr ⟨p, hp, rfl⟩); omega) fun out eo => ?_
  obtain ⟨ep, he'⟩ := PyProof.Rows.sortedAll_at s.heap its out.toArray
  have zz : ((ps.mergeSort (PySem.W.dataLe false (·.2))).map (·.1)).length ≤ sizeLine := by
    rw [List.length_map, List.length_mergeSort]
    rw [List.length_map] at hz
    exact hz
  exact ⟨.ref _, upd H (s.heap.objs.size + 1) (.lst ((ps.mergeSort (PySem.W.dataLe false (·.2))).map (·.1))), I.laid (t' := s.toks) (fun _ _ => PyProof.Rows.sortedAll_old) (Nat.le_succ _) ⟨zz, out, ep, vals_each eo, he'⟩, rfl, q _ (I.hok.fresh (Nat.le_succ _))⟩
/-- sorted(list or tuple) -/
def sortDA : List D → Option (List D)
  | [.list xs] => if sortable xs = true then some (xs.mergeSort leD) else none
  | [.tuple xs] => if sortable xs = true then some (xs.mergeSort leD) else none
  | _ => none
theorem sn_sortedA {a : Expr} {q : XA} {p : Pos} (hu : X.A.units + 64 < cLine) (hg : Gl X "sorted") (hm : X.mg "sorted" = none) (ha : SA X W [a] q) (he : starEach [a] X.env = (false, eval a X.env) :: starEach [] X.env := by rfl) (hpl : (backTo pos (starEach [] X.env)).any (·.1) = false := by rfl) : SN X W (.Call (.Name "sorted" p) [a] [] pos) (nCall sortDA q) := by
  refine PE.imp (pe_callB (callr_or (cr_sortD hu) (cr_sortT hu)) hg hm (by decide +kernel) ha (by decide) (by decide) he hpl) fun σ H Q ⟨B, e, Z, R0, hq⟩ => ?_
  refine rn_bind R0 hq fun v1 Z1 e1 d1 H1 s1 R1 D1 h1 => ?_
  obtain ⟨ds, e2, h2⟩ := pgf_lift h1
  have fin : ∀ {ws : List V} {xs : List D}, DqAll X.K Z1 ws xs → PgF X.K X.mg W B σ Z1 (R.ok (xs.mergeSort leD) e1) Q → (ws.zip xs).map (·.1) = ws ∧ (ws.zip xs).map (·.2) = xs ∧ (∀ p ∈ ws.zip xs, Dp X.K H1 p.1 p.2) ∧
      ∀ q, H1 q = none → Q (.ref q) (upd H1 q (.lst (((ws.zip xs).mergeSort (PySem.W.dataLe false (·.2))).map (·.1)))) := fun {ws xs} g2 h2 => by
    obtain ⟨z1, z2, z3⟩ := dpa_zip g2
    refine ⟨z1, z2, fun p hp => Dq.dp (dp_mono R1.sub (z3 p hp)), ?_⟩
    have e3 : xs.mergeSort leD = ((ws.zip xs).mergeSort (PySem.W.dataLe false (·.2))).map (·.2) := by
      conv => lhs; rw [← z2]
      rw [List.map_mergeSort]
      intro a ha b hb
      rfl
    rw [e3] at h2
    exact pgf_new R1 (dpa_of_pairs _ fun p hp => z3 p (List.mem_mergeSort.mp hp)) h2
  unfold sortDA at e2
  split at e2
  · split at e2
    · rename_i ho
      cases e2
      obtain ⟨v, rfl, hv⟩ := dpa_1 D1
      obtain ⟨a, ws, rfl, g1, g2⟩ := dp_list hv
      obtain ⟨z1, z2, z3, z4⟩ := fin g2 h2
      exact .inl ⟨a, ws.zip _, rfl, by rw [z1]; exact .inl (.inl (R1.sub _ _ g1)), z3, by rw [z2]; exact ho, z4⟩
    · cases e2
  · split at e2
    · rename_i ho
      cases e2
      obtain ⟨v, rfl, hv⟩ := dpa_1 D1
      obtain ⟨a, ws, rfl, g1, g2⟩ := dp_tuple hv
      obtain ⟨z1, z2, z3, z4⟩ := fin g2 h2
      exact .inr ⟨a, ws.zip _, rfl, by rw [z1]; exact same_tup R1.sub g1, z3, by rw [z2]; exact ho, z4⟩
    · cases e2
  · cases e2
end
end G
set_option Elab.async false
set_option linter.all false
set_option maxRecDepth 100000
/-! len(set(xs)) of texts no two of which are alike -/
namespace G
open PySem PySem.Spec PyProof.Rows L2
section
variable {P : Program} {w : World} {A : Around} {E : Value → Shared → Prop} {s : Shared}
abbrev SetS (P : Program) (w : World) (h : Heap) (S : Addr) (xs : List Str) : Prop := h.SetOf (PySem.strKind P w) S (fun k => decide (k ∈ xs)) xs.length
theorem fill_strs {R : Result → Shared → Prop} {I S : Addr} {fp wr : List Addr} {G : Array GenState → Array GenState → Prop} {Pv : Nat → Value → Prop} {St : Nat → Shared → Prop} (xs : List Str) (nd : xs.Nodup) (hb : xs.length + 1 < scanBound)
    (W : WalksS P w A.in1 I fp wr G xs.length Pv St) (out : S ∉ fp) (hv : ∀ i v, Pv i v → ∃ x t, xs[i]? = some x ∧ v = .str x t) :
    ∀ (m i : Nat) (s : Shared), xs.length = i + m → St i s → SetS P w s.heap S (xs.take i) → (∀ s', Moved (S :: wr) G s s' → SetS P w s'.heap S xs → R (.ok (.ret .none)) s') → codeAny (model P w) A (.builtin "set.update.loop" ⟨[.ref S, .ref I], []⟩) R s := by
  have out2 : S ∉ wr := fun q => out (W.sub _ q)
  have keep : ∀ {s1 s2 : Shared} {ys : List Str}, Moved wr G s1 s2 → SetS P w s1.heap S ys → SetS P w s2.heap S ys := fun mv ⟨o, es, ep, t, ho, r⟩ => ⟨o, es, ep, t, mv.heap S _ out2 ho, r⟩
  have more : ∀ b ∈ wr, b ∈ S :: wr := fun b hb => List.mem_cons_of_mem _ hb
  intro m
  induction m with
  | zero =>
    intro i s hi st hS k
    have e : i = xs.length := by omega
    subst e
    rw [List.take_of_length_le (Nat.le_refl _)] at hS
    refine codeAny_builtin F.entry_set_update_loop ?_
    rw [Around.under_plainId F.plain_set_update_loop _]
    exact wpAny_bind (m := pyNext (.ref I)) (W.done s _ _ st fun s' mv => wpAny_pure (k s' (mv.mono more) (keep mv hS)))
  | succ m ih =>
    intro i s hi st hS k
    refine codeAny_builtin F.entry_set_update_loop ?_
    rw [Around.under_plainId F.plain_set_update_loop _]
    refine wpAny_bind (m := pyNext (.ref I)) (W.item i s _ _ (by omega) st fun v s' hP st' mv => ?_)
    obtain ⟨x, t, hx, rfl⟩ := hv i v hP
    have nx : x ∉ xs.take i := fun q => by
      obtain ⟨j, hj, e⟩ := List.getElem_of_mem q
      rw [List.getElem_take] at e
      rw [List.length_take] at hj
      obtain ⟨h1, h2⟩ := List.getElem?_eq_some_iff.mp hx
      exact absurd ((List.getElem_inj nd).mp (e.trans h2.symm)) (by omega)
    refine wpAny_bind (m := holding [Value.str x t] (setAdd S (.str x t))) (wpAny_holding ?_)
    unfold setAdd
    refine wpAny_holding (wpAny_bind ((PySem.strKind P w).pyHash (k := x) (strKind_is _ _ _ _) ?_))
    refine wpAny_setAddHashed_of (knd := PySem.strKind P w) (s := { s' with toks := s'.toks + 1 }) (strKind_is _ _ _ _) rfl (show SetS P w s'.heap S _ from keep mv hS) (by rw [List.length_take]; omega) fun h' sb hS2 => ?_
    have el : (xs.take (i + 1)).length = (xs.take i).length + 1 := by rw [List.length_take, List.length_take]; omega
    have hS3 : SetS P w h' S (xs.take (i + 1)) := by
      refine SetOf_congr hS2 (fun j => ?_) ?_
      · rw [List.take_add_one, hx]
        simp
      · rw [if_neg (by simpa using nx), el]
    refine wpAny_pure ⟨plainId_quiet F.plain_set_update_loop _, ih (i + 1) _ (by omega) (W.frame _ s' _ _ st' (Nat.le_succ _) fun b q o e => ?_) hS3 fun s2 mv2 hS4 => ?_⟩
    · exact (sb.2 b fun z : b = S => out (z ▸ q)).trans e
    · exact k s2 (Moved.trans W.gtrans ((mv.mono more).then_heap (Nat.le_succ _) fun b o q e => (sb.2 b fun z : b = S => q (z ▸ List.mem_cons_self)).trans e) mv2) hS4
theorem strs_get : ∀ {vs : List Value} {ts : List Str}, StrsAre vs ts → ∀ (i : Nat) (v : Value), vs[i]? = some v → ∃ x t, ts[i]? = some x ∧ v = .str x t
  | _, _, .nil, i, v, h => by simp at h
  | _, _, .cons y t r, 0, v, h => by cases h; exact ⟨y, t, rfl, rfl⟩
  | _, _, .cons y t r, i + 1, v, h => by simpa using strs_get r i v (by simpa using h)
/-- set.__init__ of a tuple of texts -/
theorem init_setT {S l : Addr} {items : Array Value} {xs : List Str} {R : Result → Shared → Prop} (hh : A.handled = none) (hS : s.heap.get? S = some (oSet0 w)) (hl : s.heap.IsTuple l items) (hi : StrsAre items.toList xs) (nd : xs.Nodup) (hb : xs.length + 1 < scanBound)
    (hR : ∀ (h' : Heap) (tk : Nat), SetS P w h' S xs → (∀ b o, b ≠ S → s.heap.get? b = some o → h'.get? b = some o) → R (.ok (.ret .none)) { s with heap := h', toks := tk }) :
    codeAny (model P w) A (.call (.builtin "set.__init__") ⟨[.ref S, .ref l], []⟩) R s := by
  have typ : s.TypeIs (.ref S) "set" := ⟨_, hS, rfl⟩
  refine codeAny_call_builtin F.called_set.init.plain F.entry_set_init (check_set_init_1 typ ?_)
  have size : items.size = xs.length := by rw [← Array.length_toList]; exact StrsAre.length hi
  obtain ⟨⟨c0, d0, _, sl0⟩, ho, hc, cap, hd⟩ := id hl
  simp only at hc hd
  subst hc hd
  have neS : l ≠ S := fun q => by
    rw [q, hS] at ho
    have k := congrArg (fun o => o.map fun o : Obj => o.cls == .type "set") ho
    exact absurd k (by simp)
  have notD : (Value.type "tuple" == Value.type "dict") = false := rfl
  have sub1 := PySem.F.sub_tuple_set
  have sub2 := PySem.F.sub_tuple_frozenset
  obtain ⟨hp, g, d, tk, os⟩ := s
  unfold Builtin.«set.__init__» noKeywords Builtin.Frozenset.updateFrom
  generalize hf : pyIter = f
  wp_walk
  subst hf
  refine wpAny_pyIter_tuple hl (wpAny_bind (wpAny_runValue ?_))
  have lS : S < hp.objs.size := Heap.lt_size hS
  have ll : l < hp.objs.size := Heap.lt_size ho
  have W := (Walks.tuple (prog := P) (w := w) (A := A.in1.in1) (by simpa using hh) hp.objs.size l (Nat.ne_of_lt ll) items).toS
  rw [size] at W
  have emp : SetS P w (hp.push { cls := .type "tuple_iterator", data := .fields #[.ref l, .int 0 0] }) S [] := by
    have := (setObjOf_fresh (knd := PySem.strKind P w) (!w.params.followText "set-order")).setOf (a := S) (h := hp.push { cls := .type "tuple_iterator", data := .fields #[.ref l, .int 0 0] }) (Heap.get?_push_of_some _ hS) (by unfold scanBound; omega)
    exact SetOf_congr this (fun _ => by simp) rfl
  refine fill_strs xs nd hb W (fun q => ?_) (fun i v hv => ?_) xs.length 0 _ (by omega) ?st ?em fun s' mv hS' => ?_
  case st => exact ⟨⟨_, Heap.get?_push_size _ rfl, rfl, rfl⟩, ⟨_, Heap.get?_push_of_some _ ho, rfl, _, rfl⟩⟩
  case em => rw [List.take_zero]; exact emp
  · rcases List.mem_cons.mp q with q | q
    · exact Nat.lt_irrefl _ (q ▸ lS)
    · exact neS (List.mem_singleton.mp q).symm
  · exact strs_get hi i v (by rw [Array.getElem?_toList]; exact hv)
  · rw [Moved.eq_with mv]
    refine wpAny_pure (wpAny_pure (hR s'.heap s'.toks hS' fun b o nb q => mv.heap b o (fun m => ?_) (Heap.get?_push_of_some _ q)))
    rcases List.mem_cons.mp m with m | m
    · exact nb m
    · exact Nat.lt_irrefl _ ((List.mem_singleton.mp m) ▸ Heap.lt_size q)
theorem call_setT {l : Addr} {items : Array Value} (xs : List Str) {Q : Value → Shared → Prop} (hh : A.handled = none) (hl : s.heap.IsTuple l items) (hi : StrsAre items.toList xs) (nd : xs.Nodup) (hb : xs.length + 1 < scanBound)
    (h : ∀ (h' : Heap) (tk : Nat), SetS P w h' s.heap.objs.size xs → (∀ b o, s.heap.get? b = some o → h'.get? b = some o) → Q (.ref s.heap.objs.size) { s with heap := h', toks := tk }) : wpAny (model P w) A (call (.type "set") [.ref l]) Q E s := by
  refine call_typ (Q₁ := fun obj s₁ => obj = .ref s.heap.objs.size ∧ s₁ = { s with heap := s.heap.push (oSet0 w) }) F.called_set (F.typeCall_set_1 _) (code_set_led1 _ ⟨rfl, rfl⟩) fun obj s₁ q => ?_
  obtain ⟨rfl, rfl⟩ := q
  have g0 : (s.heap.push (oSet0 w)).get? s.heap.objs.size = some (oSet0 w) := Heap.get?_push_size _ rfl
  exact ⟨⟨_, g0, rfl⟩, init_setT (s := { s with heap := s.heap.push (oSet0 w) }) (A := A.in1) (by simpa using hh) g0 ⟨_, Heap.get?_push_of_some _ hl.choose_spec.1, hl.choose_spec.2⟩ hi nd hb fun h' tk hS k => ⟨rfl, h h' tk hS fun b o q => k b o (Nat.ne_of_lt (Heap.lt_size q)) (Heap.get?_push_of_some _ q)⟩⟩
end
section
variable {X : Cx} {W : WX} {pos : Pos}
/-- len(set(a tuple of texts)) -/
def dLenSet : List D → Option D
  | [.tuple xs] => match strsD xs with
    | some ns => if ns.Nodup ∧ ns.length ≤ 4000 then some (.int (ns.length : Nat)) else none
    | none => none
  | _ => none
def rLenSet (K : Frag) (vs : List V) (H : Hp) (Q : VK) : Prop := ∃ (l : Addr) (ns : List Str), vs = [.ref l] ∧ SqT K H l (ns.map V.str) ∧ ns.Nodup ∧ ns.length ≤ 4000 ∧ Q (.int (ns.length : Nat)) H
theorem pe_lenSetT {a : Expr} {ta : TA} {p p2 pos pos2 : Pos} (hc : X.calm = true) (hg : Gl X "len") (hm : X.mg "len" = none) (hg2 : Gl X "set") (hm2 : X.mg "set" = none) (ha : PA X [a] ta)
    (hs : starEach [a] X.env = (false, eval a X.env) :: starEach [] X.env := by rfl) (hpl : (backTo pos2 (starEach [] X.env)).any (·.1) = false := by rfl)
    (he : starEach [.Call (.Name "set" p2) [a] [] pos2] X.env = (false, eval (.Call (.Name "set" p2) [a] [] pos2) X.env) :: starEach [] X.env := by rfl) :
    PE X (.Call (.Name "len" p) [.Call (.Name "set" p2) [a] [] pos2] [] pos) (fun σ H Q => ta σ H fun vs H1 => rLenSet X.K vs H1 Q) := by
  refine ⟨fun pins s σ H Q I h => ?_⟩
  refine Call_ (ld_blt I hg hm PySem.boot_len ?_)
  refine PyProof.Rows.callWith_builtin1 ?_ he rfl
  rw [he]
  refine Calls.spliced_cons ?_
  refine Call_ (ld_blt I hg2 hm2 (u := .type "set") (by decide +kernel) (PyProof.Rows.callWith_type1 (thn (ha.run pos2 pins s σ H _ I h) fun us s1 ⟨vs, H1, I1, r1, q1⟩ => ?_) hs hpl))
  obtain ⟨l, ns, rfl, hq, nd, hb, q⟩ := q1
  rw [Vals.ref1 r1]
  obtain ⟨its, rv, ht, hz⟩ := I1.tuple hq
  refine call_setT ns (I.ok.hd hc) ht (by simpa using strsAre_of rv) nd (by show _ < 4096; omega) fun h' tk hS k => Calls.spliced_nil ?_
  obtain ⟨o, es, ep, t, ho, hex, hd, _, _, _, hf, hn⟩ := hS
  have I2 : Inv X pins σ H1 { s1 with heap := h', toks := tk } := I1.kept k
  exact call_len_set ho hex hd hf (by rw [hn]; omega) ⟨.int ns.length, H1, I2.tok _, ⟨_, by rw [hn]⟩, q⟩
theorem se_lenSet {a : Expr} {q : XA} {p p2 pos pos2 : Pos} (hc : X.calm = true) (hg : Gl X "len") (hm : X.mg "len" = none) (hg2 : Gl X "set") (hm2 : X.mg "set" = none) (ha : SA X W [a] q)
    (hs : starEach [a] X.env = (false, eval a X.env) :: starEach [] X.env := by rfl) (hpl : (backTo pos2 (starEach [] X.env)).any (·.1) = false := by rfl)
    (he : starEach [.Call (.Name "set" p2) [a] [] pos2] X.env = (false, eval (.Call (.Name "set" p2) [a] [] pos2) X.env) :: starEach [] X.env := by rfl) :
    SE X W (.Call (.Name "len" p) [.Call (.Name "set" p2) [a] [] pos2] [] pos) (eCall dLenSet q) := by
  refine PE.imp (pe_lenSetT hc hg hm hg2 hm2 ha hs hpl he) fun σ H Q ⟨B, e, Z, R0, hq⟩ => ?_
  refine rg_bind R0 hq fun v1 Z1 e1 d1 H1 s1 R1 D1 h1 => ?_
  obtain ⟨d, ed, k⟩ := pg_lift R1 h1
  unfold dLenSet at ed
  split at ed
  · split at ed
    · rename_i hs
      split at ed
      · rename_i hb
        cases ed
        obtain ⟨v, rfl, hv⟩ := dpa_1 D1
        obtain ⟨a, ws, rfl, g1, g2⟩ := dp_tuple hv
        have ew := dpa_strs g2 hs
        subst ew
        exact ⟨a, _, rfl, same_tup R1.sub g1, hb.1, hb.2, k _ Z1 H1 (Nw.refl R1.sub) (.int _)⟩
      · cases ed
    · cases ed
  · cases ed
end
end G
set_option Elab.async false
set_option linter.all false
set_option maxRecDepth 100000
/-! text.find, is of truths, text[::-1], extend by a tuple, two places exchanged, a def that replaces a sign -/
namespace G
open PySem PySem.Spec PyProof.Rows L2
section
variable {X : Cx} {W : WX} {pos : Pos}
/-! ### text.find(text) -/
def dFind : D → List D → Option D
  | .str a, [.str b] => some (.int (Txt.find a b))
  | _, _ => none
theorem ok_find {K : Frag} : OkM K (fun x xs H Q => ∃ a b, x = .str a ∧ xs = [.str b] ∧ Q (.int (Txt.find a b)) H) dFind := by
  intro Z H x xs c ds d Q s D1 D2 e k
  unfold dFind at e
  split at e
  · cases e
    cases dp_str D1
    obtain ⟨v, rfl, hv⟩ := dpa_1 D2
    cases dp_str hv
    exact ⟨_, _, rfl, rfl, k _ Z H (Nw.refl s) (.int _)⟩
  · cases e
theorem se_find {o a : Expr} {ap : Pos} {p : XE} {q : XA} (ho : SE X W o p) (ha : SA X W [a] q) (hbase : attributeBase o "find" X.env (eval o X.env) = eval o X.env := by rfl)
    (hfew : ((backTo pos (starEach [a] X.env)).all (fun x => !x.1) && (backToKw pos (keywordEach [] X.env)).all (fun x => x.1.isSome)
      && decide ([a].length + ([] : List Keyword).length + (if ([] : List Keyword).isEmpty then 0 else 1) < 30)) = true := by rfl)
    (hline : (ap.endLine == pos.line) = true := by rfl) (hs : starEach [a] X.env = (false, eval a X.env) :: starEach [] X.env := by rfl) (hplain : (backTo pos (starEach [] X.env)).any (·.1) = false := by rfl) :
    SE X W (.Call (.Attribute o "find" ap) [a] [] pos) (eMeth isStr dFind p q) :=
  se_tBM tyD_str ok_find (pe_bm PySem.F.plainAttrs_str PySem.F.slot_str_find PySem.F.type_str_find mt_find ho ha hbase hfew hline hs hplain)
/-! ### is, is not of truths -/
def dIsB : D → D → Option D
  | .bool a, .bool b => some (.bool (decide (a = b)))
  | _, _ => none
def dNotB : D → D → Option D
  | .bool a, .bool b => some (.bool (!decide (a = b)))
  | _, _ => none
theorem ok_isB {K : Frag} : Ok2 K rIsB dIsB := by
  intro Z H x y d1 d2 d Q s D1 D2 e k
  unfold dIsB at e
  split at e
  · cases e
    cases dp_bool D1
    cases dp_bool D2
    exact ⟨_, _, rfl, rfl, k _ Z H (Nw.refl s) (.bl _)⟩
  · cases e
theorem ok_notB {K : Frag} : Ok2 K rNotB dNotB := by
  intro Z H x y d1 d2 d Q s D1 D2 e k
  unfold dNotB at e
  split at e
  · cases e
    cases dp_bool D1
    cases dp_bool D2
    exact ⟨_, _, rfl, rfl, k _ Z H (Nw.refl s) (.bl _)⟩
  · cases e
theorem se_isB {a b : Expr} {p q : XE} (ha : SE X W a p) (hb : SE X W b q) : SE X W (.Compare a [.Is] [b] pos) (eOp dIsB p q) := se_cmp op_isBl ok_isB ha hb (nobehind _ (by decide) (by decide))
theorem st_isB {a b : Expr} {p q : XE} (ha : SE X W a p) (hb : SE X W b q) : ST X W (.Compare a [.Is] [b] pos) (tOf (eOp dIsB p q)) := st_cmp op_isBl ok_isB ha hb (nobehind _ (by decide) (by decide))
theorem se_notB {a b : Expr} {p q : XE} (ha : SE X W a p) (hb : SE X W b q) : SE X W (.Compare a [.IsNot] [b] pos) (eOp dNotB p q) := se_cmp op_notBl ok_notB ha hb (nobehind _ (by decide) (by decide))
theorem st_notB {a b : Expr} {p q : XE} (ha : SE X W a p) (hb : SE X W b q) : ST X W (.Compare a [.IsNot] [b] pos) (tOf (eOp dNotB p q)) := st_cmp op_notBl ok_notB ha hb (nobehind _ (by decide) (by decide))
/-! ### text[::-1] -/
def backS (x : Str) (k : Tok) : Str := ⟨((slicePicked x none none (some (-1, k))).filterMap (x.cps[·]?)).toArray⟩
theorem back_ix (n : Nat) : Builtin.Str.strSliceIndices none none (-1) n = (List.range n).map fun k => n - 1 - k := by
  unfold Builtin.Str.strSliceIndices
  simp only [show ¬ ((-1 : Int) > 0) by decide, if_false]
  unfold sliceRange
  simp only [show ¬ ((-1 : Int) > 0) by decide, if_false]
  have e : (if ((n : Int) - 1) > (-1) then ((n : Int) - 1 - (-1) - (-1) - 1) / (- (-1)) else 0) = (n : Int) := by
    have h1 : (- (-1 : Int)) = 1 := by decide
    rw [h1, Int.ediv_one]
    split <;> omega
  rw [e]
  show List.map _ (List.range n) = _
  refine List.map_congr_left fun k hk => ?_
  have := List.mem_range.mp hk
  omega
theorem backS_eq (x : Str) (k : Tok) : backS x k = ⟨((x.cps.toList).reverse).toArray⟩ := by
  unfold backS slicePicked
  show (⟨((Builtin.Str.strSliceIndices none none (-1) x.length).filterMap (x.cps[·]?)).toArray⟩ : Str) = _
  rw [back_ix]
  congr 2
  have hl : x.length = x.cps.toList.length := by simp [Str.length]
  rw [hl]
  refine List.ext_getElem? fun i => ?_
  rw [List.filterMap_map]
  have key : ∀ l : List Nat, (List.range l.length).filterMap ((fun i : Nat => l[i]?) ∘ fun k => l.length - 1 - k) = l.reverse := fun l => by
    have e1 : (List.range l.length).map ((fun i : Nat => l[i]?) ∘ fun k => l.length - 1 - k) = l.reverse.map some := by
      refine List.ext_getElem? fun j => ?_
      rw [List.getElem?_map, List.getElem?_map]
      by_cases hj : j < l.length
      · rw [List.getElem?_range hj, List.getElem?_reverse hj]
        simp [List.getElem?_eq_getElem (show l.length - 1 - j < l.length by omega)]
      · rw [List.getElem?_eq_none (by simp; omega), List.getElem?_eq_none (by simp; omega)]
        rfl
    have e2 : ∀ (f : Nat → Option Nat) (L : List Nat), L.filterMap f = (L.map f).filterMap id := fun f L => by rw [List.filterMap_map]; rfl
    rw [e2, e1, List.filterMap_map]
    simp
  have := key x.cps.toList
  simpa using congrArg (fun l : List Nat => l[i]?) this
def revS (x : Str) : Str := ⟨(x.cps.toList.reverse).toArray⟩
def tRevS (te : TE) : TE := fun σ H Q => te σ H fun x H1 => ∃ z, x = .str z ∧ z.length ≤ sizeLine ∧ Q (.str (revS z)) H1
theorem revS_len (z : Str) : (revS z).length = z.length := by simp [revS, Str.length]
theorem pe_revS {e : Expr} {te : TE} {k : Nat} {p1 p2 p3 : Pos} (he : PE X e te) : PE X (.Subscript e (.Slice none none (some (.UnaryOp .USub (.Constant (.int 1) k p1) p2)) p3) pos) (tRevS te) := by
  refine ⟨fun pins s σ H Q I h => Subscript_ (thn (he.run pins s σ H _ I h) fun v s1 w1 => ?_)⟩
  obtain ⟨x, H1, I1, r1, z, ex, hz, q⟩ := w1
  subst ex
  obtain ⟨tk, rfl⟩ := r1
  have step : PO X (some (.UnaryOp .USub (.Constant (.int 1) k p1) p2)) (tPart (tUn (rU fun i => .int (-i)) (tC (.int 1)))) := po_some (pe_un un_neg pe_int)
  refine wpAny_Slice (thn (po_none.run pins s1 σ H1 (fun o Ha => o = none ∧ Ha = H1) I1 ⟨rfl, rfl⟩) ?_)
  rintro vl s2 ⟨l, Ha, I2, pl, rfl, rfl⟩
  refine thn (po_none.run pins s2 σ Ha (fun o Hb => o = none ∧ Hb = Ha) I2 ⟨rfl, rfl⟩) ?_
  rintro vu s3 ⟨u, Hb, I3, pu, rfl, rfl⟩
  refine thn (step.run pins s3 σ Hb (fun o Hc => o = some (-1) ∧ Hc = Hb) I3 ⟨1, rfl, -1, rfl, rfl, rfl⟩) ?_
  rintro vs s4 ⟨o, Hc, I4, ps, rfl, rfl⟩
  obtain ⟨l', rfl, z1⟩ := IsPart.raw pl
  obtain ⟨u', rfl, z2⟩ := IsPart.raw pu
  obtain ⟨m', rfl, z3⟩ := IsPart.raw ps
  have e1 : l' = none := by cases l' <;> simp_all
  have e2 : u' = none := by cases u' <;> simp_all
  obtain ⟨kk, e3⟩ : ∃ kk, m' = some (-1, kk) := by
    cases m' with
    | none => simp at z3
    | some y =>
      obtain ⟨y1, y2⟩ := y
      simp at z3
      exact ⟨y2, by rw [← z3]⟩
  subst e1 e2 e3
  refine tail_any (ops := [.ref s4.heap.objs.size, .str z tk]) (typeIs_str _ _ _) PySem.F.slot_str_getitem.lookup ?_ (by with_unfolding_all rfl)
  refine wpAny_getItem_str_slice (l := none) (u := none) (st := some (-1, kk)) ⟨_, Heap.get?_push_size _ rfl, rfl, rfl⟩ rfl ?_
  have key : sliceMade z tk none none (some (-1, kk)) = .str (backS z kk) := by
    unfold sliceMade
    rw [if_neg (by simp)]
    rfl
  rw [key, backS_eq]
  have I5 := I4.kept (h' := s4.heap.push { cls := .type "slice", data := .fields #[partValue none, partValue none, partValue (some (-1, kk))] }) (t' := s4.toks) fun b ob q => Heap.get?_push_of_some _ q
  exact ⟨by have := revS_len z; unfold revS at this; omega, .str _, Hc, I5.tok _, ⟨_, rfl⟩, q⟩
def eRevS (p : XE) : XE := fun e => (p e).bind fun d e1 => match d with
  | .str z => if z.length ≤ sizeLine then .ok (.str (revS z)) e1 else .bad
  | _ => .bad
theorem se_revS {a : Expr} {k : Nat} {p1 p2 p3 : Pos} {p : XE} (ha : SE X W a p) : SE X W (.Subscript a (.Slice none none (some (.UnaryOp .USub (.Constant (.int 1) k p1) p2)) p3) pos) (eRevS p) := by
  refine PE.imp (pe_revS ha) fun σ H Q ⟨B, e, Z, R0, hq⟩ => ?_
  refine rg_bind R0 hq fun v1 Z1 e1 d1 H1 s1 R1 D1 h1 => ?_
  cases D1 with
  | str z =>
    dsimp only at h1
    split at h1
    · rename_i hz
      exact ⟨z, rfl, hz, h1 _ Z1 H1 (Same.refl _) R1 (.str _)⟩
    · exact h1.elim
  | non => exact h1.elim
  | bl _ => exact h1.elim
  | int _ => exact h1.elim
  | lst _ _ => exact h1.elim
  | tup _ _ => exact h1.elim
/-! ### a list extended by a tuple -/
def rExtT (K : Frag) : V → List V → Hp → VK → Prop := fun x vs H Q => ∃ l b xs zs, x = .ref l ∧ vs = [.ref b] ∧ H l = some (.lst xs) ∧ SqT K H b zs ∧ xs.length + zs.length ≤ sizeLine ∧ Q .non (upd H l (.lst (xs ++ zs)))
theorem ext_meets (l : Addr) (us : Array Value) (n : Nat) (b : Addr) (ws : Array Value) (m : Nat) (od : Option Addr) (osl : Array (Option Value))
    (fit : ¬(!us.isEmpty && Builtin.List.listTooLong (us.size + ws.size)) = true) (h1 : us.size ≤ sizeLine) (h2 : us.size + ws.size ≤ sizeLine + 1) :
    Meets (Builtin.«list.extend» ⟨[.ref l, .ref b], []⟩) (fun _ R s => s.heap.get? l = some { cls := .type "list", dict := none, data := .seq us n, slots := #[] } ∧ s.heap.get? b = some ⟨.type "tuple", od, .seq ws m, osl⟩ ∧ R (.ok (.ret Value.none)) { s with heap := s.heap.update l (Obj.mapSeq fun x => x ++ ws), toks := s.toks }) :=
  .of_wp fun prog w A R s hh => by
    obtain ⟨hp, g, d, tk, os⟩ := s
    obtain ⟨hl, hb, h⟩ := hh
    have g1 := AutoSeq1.idx_int
    have g2 := AutoSeq1.sub_tuple_tuple
    have g3 := AutoSeq1.sub_list_list
    have g4 := AutoSeq1.sub_tuple_list
    have g5 := AutoSeq1.sub_list_tuple
    have g6 : (us ++ ws).size ≤ sizeLine + 1 := by rw [Array.size_append]; exact h2
    wp_walk using (wpAny_updateSeq hl rfl (hz := h1) (_hz' := g6)), AutoSeq1.wpAny_loadPart' hl, AutoSeq1.wpAny_loadPart' hb
    exact ⟨_, rfl, h⟩
theorem mt_extT : MtM X "list.extend" (rExtT X.K) := by
  intro pins s σ H x vs v us Q I rx rv ⟨l, b, xs, zs, e1, e2, hH, hB, hz, q⟩
  subst e1 e2
  cases rx
  obtain ⟨u, rfl, ru⟩ := rv.one
  cases ru
  obtain ⟨z, its, n, r, hl, e⟩ := I.lstM hH
  obtain ⟨jts, rj, ht, hz2⟩ := I.tuple hB
  obtain ⟨⟨oc, od, odt, osl⟩, g1, g2, m, g3⟩ := ht
  cases (show oc = _ from g2)
  cases (show odt = _ from g3)
  have l1 := r.length
  have l2 := rj.length
  have tot : its.toArray.size + jts.toArray.size ≤ sizeLine := by simp only [List.size_toArray]; omega
  have fit : ¬ (!its.toArray.isEmpty && Builtin.List.listTooLong (its.toArray.size + jts.toArray.size)) = true := by rw [notLongL tot, Bool.and_false]; exact Bool.false_ne_true
  have meets := ext_meets l its.toArray n b jts.toArray m od osl fit (by omega) (by omega)
  refine call_meets F.slot_list_extend ⟨_, e, rfl⟩ F.entry_list_extend (F.args_list_extend_2 _ _) meets ⟨e, g1, ?_⟩
  exact ⟨.non, _, I.lset (its' := its ++ jts) hH e (by simp) (r.append rj) (by rw [List.length_append]; omega), rfl, q⟩
def mExtendT : List D → List D → Option (D × List D)
  | xs, [.tuple ys] => if xs.length + ys.length ≤ sizeLine then some (.none, xs ++ ys) else none
  | _, _ => none
theorem ok_extT {K : Frag} : OkMut K (rExtT K) mExtendT := by
  intro Z H l xs vs ds as d ys Q s h1 h2 h3 h4 e k
  unfold mExtendT at e
  split at e
  · split at e
    · cases e
      obtain ⟨v, rfl, hv⟩ := dpa_1 h4
      obtain ⟨b, us, rfl, g1, g2⟩ := dp_tuple hv
      exact ⟨l, b, xs, us, rfl, rfl, h1, same_tup s g1, by rw [dpa_len h3, dpa_len g2]; assumption, k _ _ (dpa_app h3 g2) .non⟩
    · cases e
  · cases e
theorem se_extT {i : Nat} {x : Str} {px ap : Pos} {a : Expr} {q : XA} (hx : PE X (.Name x px) (tVar i)) (ha : SA X W [a] q)
    (hbase : attributeBase (.Name x px) "extend" X.env (eval (.Name x px) X.env) = eval (.Name x px) X.env := by rfl)
    (hfew : ((backTo pos (starEach [a] X.env)).all (fun x => !x.1) && (backToKw pos (keywordEach [] X.env)).all (fun x => x.1.isSome)
      && decide ([a].length + ([] : List Keyword).length + (if ([] : List Keyword).isEmpty then 0 else 1) < 30)) = true := by rfl)
    (hline : (ap.endLine == pos.line) = true := by rfl) (hs : starEach [a] X.env = (false, eval a X.env) :: starEach [] X.env := by rfl) (hplain : (backTo pos (starEach [] X.env)).any (·.1) = false := by rfl) :
    SE X W (.Call (.Attribute (.Name x px) "extend" ap) [a] [] pos) (eMut i mExtendT q) :=
  PE.imp (pe_bm PySem.F.plainAttrs_list PySem.F.slot_list_extend PySem.F.type_list_extend mt_extT hx ha hbase hfew hline hs hplain) fun _ _ _ => mut_imp ok_extT
/-! ### xs[a], xs[b] = two things -/
def setAt (i : Nat) (q : XE) (d : D) : XS := fun e => match e[i]? with
  | some (.own _ (.lst _)) => (q e).bind fun k e2 => match e2[i]?, k with
    | some (.own t (.lst xs)), .int k => match ixN xs.length k with
      | some j => .ok .nx (e2.set i (.own t (.lst (xs.set j d))))
      | none => .bad
    | _, _ => .bad
  | _ => .bad
def sSwapIx (i : Nat) (q1 q2 p : XE) : XS := fun e => (p e).bind fun d e1 => match d with
  | .tuple [d1, d2] => (setAt i q1 d1 e1).bind fun _ e2 => setAt i q2 d2 e2
  | _ => .bad
theorem g_set {i : Nat} {q : XE} {v : V} {d : D} {Dn : Ends} {B : Bs} {σ : L2.St} {Z H : Hp} {e : En} {k : Fl → En → R Fl} {Q : L2.St → Hp → Prop} (R1 : Rl X.K B e σ Z H) (D1 : Dq X.K Z v d)
    (h : PgS X.K X.mg W B Z ((setAt i q d e).bind k) Dn) (f : ∀ Z' e' H', Same Z Z' → Rl X.K B e' σ Z' H' → PgS X.K X.mg W B Z' (k .nx e') Dn → Q σ H') : gSub (tVar i) (RE X.K X.mg W q) rSetL v σ H Q := by
  unfold setAt at h
  split at h
  · rename_i t ds he
    obtain ⟨a, u, h1, _⟩ := R1.own he
    refine ⟨_, h1, ?_⟩
    have h' : PgS X.K X.mg W B Z ((q e).bind fun c e2 => R.bind (match e2[i]?, c with
      | some (.own t (.lst xs)), .int k => match ixN xs.length k with
        | some j => .ok .nx (e2.set i (.own t (.lst (xs.set j d))))
        | none => .bad
      | _, _ => .bad) k) Dn := by
      cases hq : q e with
      | ok c e2 => rw [hq] at h; exact h
      | ex x e2 => rw [hq] at h; exact h
      | bad => rw [hq] at h; exact h
    refine rs_bind R1 h' fun v2 Z2 e2 d2 H2 s2 R2 D2 g2 => ?_
    split at g2
    · rename_i t2 xs kk he2
      obtain ⟨a2, u2, z2, z3, z4, ⟨vs, rfl, z5⟩, _⟩ := R2.own he2
      rw [h1] at z2
      cases z2
      cases dp_int D2
      cases hj : ixN xs.length kk with
      | none => rw [hj] at g2; exact g2.elim
      | some j =>
        rw [hj] at g2
        exact ⟨a, vs, kk, j, rfl, rfl, z3, by rw [dpa_len z5]; exact hj, f Z2 _ _ s2 (R2.write (o' := .lst (xs.set j d)) he2 h1 ⟨_, rfl, dpa_set (dp_mono s2 D1) j z5⟩) g2⟩
    · exact g2.elim
  · exact h.elim
theorem ss_swapIx {i n : Nat} {x : Str} {px p1 p2 pt : Pos} {b1 b2 v : Expr} {q1 q2 p : XE} (hc : X.calm = true) (ha : PE X (.Name x px) (tVar i)) (hb1 : SE X W b1 q1) (hb2 : SE X W b2 q2) {px2 : Pos} (ha2 : PE X (.Name x px2) (tVar i)) (hv : SE X W v p)
    (hs : swapsWithSole [.Tuple [.Subscript (.Name x px) b1 p1, .Subscript (.Name x px2) b2 p2] n pt] v pos.line X.env = pure false := by rfl)
    (hw : swappedStores [.Tuple [.Subscript (.Name x px) b1 p1, .Subscript (.Name x px2) b2 p2] n pt] v X.env = pure none := by rfl)
    (h1 : (assignEach [.Tuple [.Subscript (.Name x px) b1 p1, .Subscript (.Name x px2) b2 p2] n pt] X.env).map (·.2) = [assign (.Tuple [.Subscript (.Name x px) b1 p1, .Subscript (.Name x px2) b2 p2] n pt) X.env] := by rfl)
    (h2 : ∀ w, assign (.Subscript (.Name x px) b1 p1) X.env w = (do
      let ov ← holding [w] (eval (.Name x px) X.env)
      let iv ← holding [w, ov] (eval b1 X.env)
      standAt p1
      holding [w, ov, iv] (setItem ov iv w)
      release [w, ov, iv] []) := by intro _; rfl)
    (h3 : ∀ w, assign (.Subscript (.Name x px2) b2 p2) X.env w = (do
      let ov ← holding [w] (eval (.Name x px2) X.env)
      let iv ← holding [w, ov] (eval b2 X.env)
      standAt p2
      holding [w, ov, iv] (setItem ov iv w)
      release [w, ov, iv] []) := by intro _; rfl)
    (k1 : (assignEach [.Subscript (.Name x px) b1 p1, .Subscript (.Name x px2) b2 p2] X.env).map (·.2) = assign (.Subscript (.Name x px) b1 p1) X.env :: (assignEach [.Subscript (.Name x px2) b2 p2] X.env).map (·.2) := by rfl)
    (k2 : (assignEach [.Subscript (.Name x px2) b2 p2] X.env).map (·.2) = assign (.Subscript (.Name x px2) b2 p2) X.env :: (assignEach [] X.env).map (·.2) := by rfl)
    (k3 : (assignEach [.Subscript (.Name x px) b1 p1, .Subscript (.Name x px2) b2 p2] X.env).length = 2 := by rfl)
    (k4 : (assignEach [.Subscript (.Name x px) b1 p1, .Subscript (.Name x px2) b2 p2] X.env).findIdx? (·.1) = none := by rfl) :
    SS X W (.Assign [.Tuple [.Subscript (.Name x px) b1 p1, .Subscript (.Name x px2) b2 p2] n pt] v pos) (sSwapIx i q1 q2 p) := by
  refine PS.imp (ps_asg hv (pg_tup hc (pgs_cons (pg_sub ha hb1 set_list h2) (pgs_cons (pg_sub ha2 hb2 set_list h3) pgs_nil k2) k1) k3 k4) hs hw h1) fun Dn σ H ⟨B, e, Z, R0, hq⟩ => ?_
  refine rs_bind R0 hq fun v1 Z1 e1 d1 H1 s1 R1 D1 g1 => ?_
  split at g1
  · rename_i d1 d2
    obtain ⟨a, ws, rfl, z1, z2⟩ := dp_tuple D1
    obtain ⟨w1, wr, rfl, y1, z3⟩ := dpa_cons z2
    obtain ⟨w2, rfl, y2⟩ := dpa_1 z3
    refine ⟨a, [w1, w2], rfl, same_tup R1.sub z1, rfl, w1, [w2], rfl, ?_⟩
    refine g_set R1 y1 g1 fun Z2 e2 H2 s2 R2 g2 => ⟨w2, [], rfl, ?_⟩
    have g2' : PgS X.K X.mg W B Z2 ((setAt i q2 d2 e2).bind fun f e => R.ok f e) Dn := by
      have e0 : ∀ r : R Fl, r.bind (fun f e => R.ok f e) = r := fun r => by cases r <;> rfl
      rw [e0]
      exact g2
    exact g_set R2 (dp_mono s2 y2) g2' fun Z3 e3 H3 s3 R3 g3 => ⟨rfl, g3 σ Z3 H3 (Same.refl _) R3⟩
  · exact g1.elim
/-! ### def f(text): return text.replace(sign, sign) -/
def eRepl (y z : Str) (p : XE) : XE := fun e => (p e).bind fun d e1 => match d with
  | .str x => if x.length + (x.length + 1) * z.length ≤ 16777216 then .ok (.str (Txt.replace x y z)) e1 else .bad
  | _ => .bad
theorem sbt_repl {o : Expr} {y z : Str} {j k : Nat} {c0 c1 apos cpos rpos : Pos} {p : XE} (ho : SE X W o p) (hyz : (y == z) = false)
    (hst : starEach [.Constant (.str y) j c0, .Constant (.str z) k c1] X.env = [(false, eval (.Constant (.str y) j c0) X.env), (false, eval (.Constant (.str z) k c1) X.env)] := by rfl)
    (hbase : attributeBase o "replace" X.env (eval o X.env) = eval o X.env := by rfl) (hline : (apos.endLine == cpos.line) = true := by rfl) :
    PSsT X [.Return (some (.Call (.Attribute o "replace" apos) [.Constant (.str y) j c0, .Constant (.str z) k c1] [] cpos)) rpos] (RSt X.K X.mg W (sRet (eRepl y z p))) := by
  have h := CwR.psst_one (CwR.pst_ret (pos := rpos) (CwR.pet_replC ho hyz hst hbase hline))
  intro pins s σ H D h0 I hw
  refine h pins s σ H D h0 I ?_
  obtain ⟨B, e, Z, R0, hq⟩ := hw
  refine rs_bind R0 (k := fun d e1 => (match d with
    | .str x => if x.length + (x.length + 1) * z.length ≤ 16777216 then R.ok (PyData.str (Txt.replace x y z)) e1 else .bad
    | _ => .bad).bind fun d e1 => R.ok (.rt d) e1) (by
      unfold sRet eRepl at hq
      cases hp : p e with
      | ok a e1 => rw [hp] at hq; exact hq
      | ex x e1 => rw [hp] at hq; exact hq
      | bad => rw [hp] at hq; exact hq) fun v1 Z1 e1 d1 H1 s1 R1 D1 g1 => ?_
  cases D1 with
  | str x =>
    dsimp only at g1
    split at g1
    · rename_i hz
      exact ⟨x, rfl, hz, g1 _ σ Z1 H1 (Same.refl _) R1 (.str _)⟩
    · exact g1.elim
  | non => exact g1.elim
  | bl _ => exact g1.elim
  | int _ => exact g1.elim
  | lst _ _ => exact g1.elim
  | tup _ _ => exact g1.elim
end
/-- a def whose body wants a token -/
theorem fn_okT {P : Program} {w : World} {K : PySem.W.Frag} {mg : Str → Option Value} {base : Heap} {x qual : Str} {st : Stmt} {f : Addr} {fd : FuncData} {N ps : List Str} {k nio : Nat} {b : XS} (F : Fun K x qual st f fd) (S : FnScope N ps (defScope st))
    (hnc : ∀ y ∈ (defScope st).names, y.2 ≠ .cell) (hps : 1 ≤ ps.length)
    (hb : ∀ (cdv : Value) (A : Around) (outer : List Env) (s : Shared) (H : Hp) (E : XK), Room k (A.deeper (envOfC qual (defScope st) s.heap.objs.size f cdv)) → PSsT (cxOf CX0 P w K mg base N qual (defScope st) f cdv A outer s H E) (defBody st) (RSt K mg WF b)) :
    FnOk P w K mg base CX0 (k + 1) f fd ps (spF K mg ps.length nio fun a => (runF N.length nio b a).nox) := by
  obtain ⟨oc, od, kV, doc, pm, an, cdv, ct, osl, rfl, lk, hcd⟩ := F.ex
  refine fn_ofT lk hcd S hnc hps (fun vs H Q E h => h.1) fun A outer s H vs Q E hr h => ?_
  obtain ⟨hl, Z, args, io, hio, hs, hp, hsep, hz, h⟩ := h
  refine ⟨_, hb cdv A outer s H E hr, _, _, Z, rl_start hs hp hsep, ?_⟩
  show PgS K mg WF _ Z (b (args ++ List.replicate (N.length - args.length) .un)) _
  unfold runF at h
  subst hio
  dsimp only at h
  cases hb : b (args ++ List.replicate (N.length - args.length) .un) with
  | bad => rw [hb] at h; exact h
  | ex x e =>
    rw [hb] at h
    simp only at h
    cases ho : outsOf io.length e with
    | none => rw [ho] at h; exact h.elim
    | some os => rw [ho] at h; exact h.elim
  | ok fl e =>
    rw [hb] at h
    cases fl with
    | bk => exact h.elim
    | ct => exact h.elim
    | nx =>
      simp only at h
      cases ho : outsOf io.length e with
      | none => rw [ho] at h; exact h.elim
      | some os =>
        rw [ho] at h
        exact fun σ' Z' H' s1 R1 => h _ Z' H' (after_of hz R1 ho) .non
    | rn ds =>
      simp only at h
      cases ho : outsOf io.length e with
      | none => rw [ho] at h; exact h.elim
      | some os =>
        rw [ho] at h
        exact fun p vs σ' Z' H' s1 R1 g1 g2 g3 g4 g5 => h p vs Z' H' (after_of hz R1 ho) (g3.resolve_right fun z => g4 (outs_own R1 ho z)) g1 g2 g5
    | rt d =>
      simp only at h
      cases ho : outsOf io.length e with
      | none => rw [ho] at h; exact h.elim
      | some os =>
        rw [ho] at h
        exact fun v σ' Z' H' s1 R1 dd => h v Z' H' (after_of hz R1 ho) dd
end G
set_option Elab.async false
set_option linter.all false
set_option maxRecDepth 100000
/-! xs[i] += n of a name's own list of ints -/
namespace G
open PySem PySem.Spec PyProof.Rows L2
section
variable {X : Cx} {W : WX} {pos : Pos}
def rGetN : V → V → Hp → VK → Prop := fun o i H Q => ∃ p xs k v, o = .ref p ∧ i = .int k ∧ H p = some (.lst xs) ∧ (0 ≤ k ∧ k < 2 ^ 62) ∧ xs[k.toNat]? = some v ∧ Q v H
theorem get_nat : PGet X rGetN := by
  intro pins s σ H o i ov iv Q I ro ri ⟨p, xs, k, v, e1, e2, hH, hk, hx, q⟩
  subst e1 e2
  cases ro
  obtain ⟨t, rfl⟩ := ri
  obtain ⟨z, its, n, r, hl, e⟩ := I.lstM hH
  obtain ⟨w, ew, rw'⟩ := r.get hx
  exact wpAny_getItem_list (items := its.toArray) ⟨_, e, rfl, _, rfl⟩ hk.1 (by omega) (by simpa using ew) ⟨v, H, I, rw', q⟩
def sAugIx (i : Nat) (q p : XE) (f : Int → Int → Int) : XS := fun e => match e[i]? with
  | some (.own _ (.lst _)) => (q e).bind fun k e1 => match e1[i]?, k with
    | some (.own _ (.lst xs)), .int k => if 0 ≤ k ∧ k < 2 ^ 62 then match xs[k.toNat]? with
      | some (.int a) => (p e1).bind fun d e2 => match d, e2[i]? with
        | .int c, some (.own t (.lst ys)) => match ixN ys.length k with
          | some j => .ok .nx (e2.set i (.own t (.lst (ys.set j (.int (f a c))))))
          | none => .bad
        | _, _ => .bad
      | _ => .bad
      else .bad
    | _, _ => .bad
  | _ => .bad
theorem ss_augIx {i : Nat} {x : Str} {px ps : Pos} {b v : Expr} {q p : XE} {op : Operator} {f : Int → Int → Int} (hop : PIp X op (ipI f)) (ha : PE X (.Name x px) (tVar i)) (hb : SE X W b q) (hv : SE X W v p)
    (h1 : ∀ ov iv new, augStore b ov iv new = (do holding [new, ov, iv] (setItem ov iv new); release [new, ov, iv] []; pure .next) := by intros; rfl) : SS X W (.AugAssign (.Subscript (.Name x px) b ps) op v pos) (sAugIx i q p f) := by
  refine PS.imp (ps_augS ha hb get_nat hv hop set_list h1) fun Dn σ H ⟨B, e, Z, R0, hq⟩ => ?_
  unfold sAugIx at hq
  split at hq
  · rename_i t ds he
    obtain ⟨a, u, h1, _⟩ := R0.own he
    refine ⟨_, h1, ?_⟩
    refine rs_bind R0 hq fun v2 Z2 e2 d2 H2 s2 R2 D2 g2 => ?_
    split at g2
    · rename_i t2 xs kk he2
      split at g2
      · rename_i hk
        obtain ⟨a2, u2, z2, z3, z4, ⟨vs, rfl, z5⟩, _⟩ := R2.own he2
        rw [h1] at z2
        cases z2
        cases dp_int D2
        split at g2
        · rename_i av hx
          obtain ⟨w, hw, dw⟩ := dpa_get z5 hx
          cases dp_int dw
          refine ⟨a, vs, kk, _, rfl, rfl, z3, hk, hw, ?_⟩
          refine rs_bind R2 g2 fun v3 Z3 e3 d3 H3 s3 R3 D3 g3 => ?_
          split at g3
          · rename_i c t3 ys he3
            cases dp_int D3
            refine ⟨_, _, rfl, rfl, ?_⟩
            obtain ⟨a3, u3, y2, y3, y4, ⟨ws, rfl, y5⟩, _⟩ := R3.own he3
            rw [h1] at y2
            cases y2
            cases hj : ixN ys.length kk with
            | none => rw [hj] at g3; exact g3.elim
            | some j =>
              rw [hj] at g3
              exact ⟨a, ws, kk, j, rfl, rfl, y3, by rw [dpa_len y5]; exact hj, g3 σ Z3 _ (Same.refl _) (R3.write (o' := .lst (ys.set j (.int (f av c)))) he3 h1 ⟨_, rfl, dpa_set (.int _) j y5⟩)⟩
          · exact g3.elim
        · exact g2.elim
      · exact g2.elim
    · exact g2.elim
  · exact hq.elim
/-! ### sum of a list or a tuple of ints -/
def rSumT (K : Frag) : List V → Hp → VK → Prop := fun vs H Q => ∃ (a : Addr) (ns : List Int), vs = [V.ref a] ∧ SqT K H a (ns.map V.int) ∧ Q (.int ns.sum) H
theorem cr_sumT (hc : X.calm = true) : CallR X (.builtin "sum") (rSumT X.K) := by
  intro pins s σ H vs us Q I r ⟨a, ns, e, hs, q⟩
  subst e
  obtain ⟨its, rv, ht, _⟩ := I.tuple hs
  rw [Vals.ref1 r]
  have hi := rv.ints
  obtain ⟨xs, e⟩ := hi.allInts.items
  have hn : numsOf (intItems xs).toList = ns := by rw [← e]; exact hi.numsOf
  rw [nums_intItems] at hn
  rw [e] at ht
  refine PySem.W.ktm_sumG (I.ok.hd hc) ht fun h' tk t' hk => ?_
  rw [preSum_eq, List.take_of_length_le (by simp), hn]
  exact ⟨.int _, H, I.kept hk, ⟨_, rfl⟩, q⟩
def dSumA : List D → Option D
  | [.list xs] => (intsD xs).map fun ns => .int ns.sum
  | [.tuple xs] => (intsD xs).map fun ns => .int ns.sum
  | _ => none
theorem ok_sumA {K : Frag} : OkC K (fun vs H Q => rSum K vs H Q ∨ rSumT K vs H Q) dSumA := by
  intro Z H xs ds d Q s D1 e k
  unfold dSumA at e
  split at e
  · rename_i ys
    obtain ⟨v, rfl, hv⟩ := dpa_1 D1
    obtain ⟨a, ws, rfl, h1, h2⟩ := dp_list hv
    cases hi : intsD ys with
    | none => rw [hi] at e; cases e
    | some ns =>
      rw [hi] at e
      cases e
      refine .inl ⟨a, ns, rfl, .inl (.inl ?_), k _ Z H (Nw.refl s) (.int _)⟩
      rw [← dpa_ints h2 hi]
      exact s _ _ h1
  · rename_i ys
    obtain ⟨v, rfl, hv⟩ := dpa_1 D1
    obtain ⟨a, ws, rfl, h1, h2⟩ := dp_tuple hv
    cases hi : intsD ys with
    | none => rw [hi] at e; cases e
    | some ns =>
      rw [hi] at e
      cases e
      refine .inr ⟨a, ns, rfl, ?_, k _ Z H (Nw.refl s) (.int _)⟩
      rw [← dpa_ints h2 hi]
      exact same_tup s h1
  · cases e
theorem se_sumA {a : Expr} {q : XA} {p : Pos} (hc : X.calm = true) (hg : Gl X "sum") (hm : X.mg "sum" = none) (ha : SA X W [a] q) (he : starEach [a] X.env = (false, eval a X.env) :: starEach [] X.env := by rfl) (hpl : (backTo pos (starEach [] X.env)).any (·.1) = false := by rfl) : SE X W (.Call (.Name "sum" p) [a] [] pos) (eCall dSumA q) :=
  se_tCB ok_sumA (pe_callB (callr_or (cr_sum hc) (cr_sumT hc)) hg hm (by decide +kernel) ha (by decide) (by decide) he hpl)
end
end G
set_option Elab.async false
set_option linter.all false
set_option maxRecDepth 100000
/-! exceptions: a def that may raise, raise, f-strings, try .. except X as e: name = e -/
namespace G
open PySem PySem.Spec PyProof.Rows L2
/-! ### f-strings -/
section
variable {X : Cx} {W : WX} {pos : Pos}
def eFmt (p : XE) : XE := fun e => (p e).bind fun d e1 => match d with
  | .str y => if y.length ≤ sizeLine then .ok (.str y) e1 else .bad
  | .int i => if i.natAbs.log2 < 1920 then .ok (.str (toString i)) e1 else .bad
  | _ => .bad
theorem se_fmt {a : Expr} {p : XE} (ha : SE X W a p) : SE X W (.FormattedValue a (-1) none pos) (eFmt p) := by
  refine PE.imp (pe_fmt ha) fun σ H Q ⟨B, e, Z, R0, hq⟩ => ?_
  refine rg_bind R0 hq fun v1 Z1 e1 d1 H1 s1 R1 D1 h1 => ?_
  cases D1 with
  | str y =>
    dsimp only at h1
    split at h1
    · rename_i hz
      exact .inl ⟨y, rfl, hz, h1 _ Z1 H1 (Same.refl _) R1 (.str _)⟩
    · exact h1.elim
  | int i =>
    dsimp only at h1
    split at h1
    · rename_i hz
      exact .inr ⟨i, rfl, hz, h1 _ Z1 H1 (Same.refl _) R1 (.str _)⟩
    · exact h1.elim
  | non => exact h1.elim
  | bl _ => exact h1.elim
  | lst _ _ => exact h1.elim
  | tup _ _ => exact h1.elim
def eJs : List XE → Str → XE
  | [], acc => fun e => .ok (.str acc) e
  | p :: ps, acc => fun e => (p e).bind fun d e1 => match d with
    | .str y => if (acc ++ y).length ≤ sizeLine then eJs ps (acc ++ y) e1 else .bad
    | _ => .bad
inductive SJ (X : Cx) (W : WX) : List Expr → List XE → Prop
  | nil : SJ X W [] []
  | cons {a : Expr} {p : XE} {as : List Expr} {ps : List XE} : SE X W a p → SJ X W as ps → SJ X W (a :: as) (p :: ps)
theorem sj_pj : ∀ {as : List Expr} {ps : List XE}, SJ X W as ps → PJ X as (ps.map fun p => RE X.K X.mg W p)
  | _, _, .nil => .nil
  | _, _, .cons a b => .cons a (sj_pj b)
theorem js_read : ∀ (ps : List XE) (acc : Str) (σ : L2.St) (H : Hp) (Q : VK), RE X.K X.mg W (eJs ps acc) σ H Q → tJs (ps.map fun p => RE X.K X.mg W p) acc σ H fun out H1 => Q (.str out) H1
  | [], acc, σ, H, Q, ⟨B, e, Z, R0, hq⟩ => hq _ Z H (Same.refl _) R0 (.str _)
  | p :: ps, acc, σ, H, Q, ⟨B, e, Z, R0, hq⟩ => by
    refine rg_bind R0 hq fun v1 Z1 e1 d1 H1 s1 R1 D1 h1 => ?_
    cases D1 with
    | str y =>
      dsimp only at h1
      split at h1
      · rename_i hz
        exact ⟨y, rfl, hz, js_read ps (acc ++ y) σ H1 Q ⟨B, e1, Z1, R1, h1⟩⟩
      · exact h1.elim
    | non => exact h1.elim
    | bl _ => exact h1.elim
    | int _ => exact h1.elim
    | lst _ _ => exact h1.elim
    | tup _ _ => exact h1.elim
theorem se_joined {a b : Expr} {as : List Expr} {ps : List XE} (h : SJ X W (a :: b :: as) ps) : SE X W (.JoinedStr (a :: b :: as) pos) (eJs ps Str.empty) :=
  PE.imp (pe_joined (sj_pj h)) fun σ H Q hq => js_read ps Str.empty σ H Q hq
/-! ### raise C(e), C an own class without an __init__ of its own -/
structure ExcT (K : Frag) (mg : Str → Option Value) (x : Str) (C : Addr) : Prop where
  g : mg x = some (.ref C)
  n : PySem.W.nsIn K mainGlobals x = some (some (.ref C))
  k : PySem.W.keepIn K (.ref C) = true
  b : PySem.W.subIn K (.ref C) (.type "BaseException") = some true
  t : PySem.W.typeIn K (.ref C) = some (.type "type")
def sRaise (x : Str) (p : XE) : XS := fun e => (p e).bind fun _ e1 => .ex ⟨x, []⟩ e1
theorem ss_raise {x : Str} {C : Addr} {a : Expr} {p : XE} {p1 p2 : Pos} (hc : X.calm = true) (tk : Takes X W) (T : ExcT X.K X.mg x C) (q : PySem.W.excIn X.K C [.type "ValueError", .type "Exception", .type "BaseException", .type "object"] "ValueError.__new__" = true) (hg : Gl X x) (ha : SE X W a p)
    (hs : starEach [a] X.env = (false, eval a X.env) :: starEach [] X.env := by rfl) (hdb : (x == ("__debug__" : Str)) = false := by decide) :
    SS X W (.Raise (some (.Call (.Name x p1) [a] [] p2)) none pos) (sRaise x p) := by
  refine PS.imp (ps_raise hc tk (SkE.pmk_own1 PySem.F.excBase_ValueError q T.g T.k (raises_own T.b T.t) hg ha hs hdb)) fun Dn σ H ⟨B, e, Z, R0, hq⟩ => ?_
  exact rs_bind R0 hq fun v1 Z1 e1 d1 H1 s1 R1 D1 h1 => h1 (.ref C) none σ Z1 H1 (Same.refl _) R1 ⟨T.n, .inl ⟨rfl, rfl⟩⟩
end
/-! ### a def that may raise -/
theorem fn_okX {P : Program} {w : World} {K : Frag} {mg : Str → Option Value} {base : Heap} {x qual : Str} {st : Stmt} {f : Addr} {fd : FuncData} {N ps : List Str} {k nio : Nat} {b : XS} (F : Fun K x qual st f fd) (S : FnScope N ps (defScope st))
    (hb : ∀ (cdv : Value) (A : Around) (outer : List Env) (s : Shared) (H : Hp) (E : XK), Room k (A.deeper (envOfC qual (defScope st) s.heap.objs.size f cdv)) → SB (cxOf (L2.CX P w) P w K mg base N qual (defScope st) f cdv A outer s H E) (fun c d _ H' => E c d H') (defBody st) b) :
    FnOk P w K mg base (L2.CX P w) (k + 1) f fd ps (spF K mg ps.length nio fun a => runF N.length nio b a) := by
  refine F.okX S (fun vs H Q E h => h.1) (fun cdv A outer s H vs Q E hr h => ?_)
  obtain ⟨hl, Z, args, io, hio, hs, hp, hsep, hz, h⟩ := h
  refine ⟨_, hb cdv A outer s H E hr, _, _, Z, rl_start hs hp hsep, ?_⟩
  show PgS K mg _ _ Z (b (args ++ List.replicate (N.length - args.length) .un)) _
  unfold runF at h
  subst hio
  dsimp only at h
  cases hb : b (args ++ List.replicate (N.length - args.length) .un) with
  | bad => rw [hb] at h; exact h
  | ex x e =>
    rw [hb] at h
    simp only at h
    cases ho : outsOf io.length e with
    | none => rw [ho] at h; exact h.elim
    | some os =>
      rw [ho] at h
      exact fun c dd σ' Z' H' s1 R1 xx => h c dd Z' H' (after_of hz R1 ho) xx
  | ok fl e =>
    rw [hb] at h
    cases fl with
    | bk => exact h.elim
    | ct => exact h.elim
    | nx =>
      simp only at h
      cases ho : outsOf io.length e with
      | none => rw [ho] at h; exact h.elim
      | some os =>
        rw [ho] at h
        exact fun σ' Z' H' s1 R1 => h _ Z' H' (after_of hz R1 ho) .non
    | rn ds =>
      simp only at h
      cases ho : outsOf io.length e with
      | none => rw [ho] at h; exact h.elim
      | some os =>
        rw [ho] at h
        exact fun p vs σ' Z' H' s1 R1 g1 g2 g3 g4 g5 => h p vs Z' H' (after_of hz R1 ho) (g3.resolve_right fun z => g4 (outs_own R1 ho z)) g1 g2 g5
    | rt d =>
      simp only at h
      cases ho : outsOf io.length e with
      | none => rw [ho] at h; exact h.elim
      | some os =>
        rw [ho] at h
        exact fun v σ' Z' H' s1 R1 dd => h v Z' H' (after_of hz R1 ho) dd
/-- a call of a def that may raise -/
theorem se_fnX {X : Cx} {W : WX} {k n nio : Nat} {f : Addr} {fd : FuncData} {ps : List Str} {x : Str} {p pos : Pos} {a : Expr} {es : List Expr} {F : List Sl → RF} {q : XR} (GF : FnOk X.prog X.w X.K X.mg X.base (L2.CX X.prog X.w) k f fd ps (spF X.K X.mg n nio F)) (tk : Takes X W) (hr : Room k X.A) (hg : Gl X x) (hm : X.mg x = some (.ref f)) (hk : PySem.W.keepIn X.K (.ref f) = true) (hb : Binds X.K fd ps [])
    (ha : SR X W (a :: es) q) (hdb : (x == ("__debug__" : Str)) = false := by decide) (he : starEach (a :: es) X.env = (false, eval a X.env) :: starEach es X.env := by rfl) (hpl : (backTo pos (starEach es X.env)).any (·.1) = false := by rfl) :
    SE X W (.Call (.Name x p) (a :: es) [] pos) (eFn n nio F q) := by
  refine PE.imp (pe_callS GF hr hg hm hk hb (fun σ => passAt tk σ) ha hdb he hpl) fun σ H Q ⟨B, e, Z, R0, hq⟩ => ?_
  refine rg_bind R0 hq fun v1 Z1 e1 as H1 s1 R1 D1 h1 => ?_
  exact fn_run R1 D1 (.inl fun c dd H' h => h) h1
end G
set_option Elab.async false
set_option linter.all false
set_option maxRecDepth 100000
namespace G
open PySem PySem.Spec PyProof.Rows L2
/-! ### try: .. except X as e: y = e: what is caught is held from then on -/
def wKeep (K : Frag) (c : Value) (i j : Nat) (Wo : WX) (D : Ends) : WX := fun cls d σ H =>
  ∃ b, PySem.W.exmOne K cls c = some b ∧ (b = true → ∀ a, H a = none → D.nx ((σ.set j (some (.ref a))).set i none) (upd H a (ExV cls d a))) ∧ (b = false → Wo cls d σ H)
section
variable {X : Cx} {pins : List (Addr × Obj)} {σ : L2.St} {H : Hp} {s : Shared}
/-- a pinned exception is tracked -/
theorem adopt {a : Addr} {oe : Obj} {vs : Array Value} {cls : Value} {d : Option Addr} (I : Inv X ((a, oe) :: pins) σ H s) (hz : Zc cls d oe) (hd : oe.data = .fields vs) (new0 : X.s_0.heap.get? a = none) (npin : ∀ p ∈ X.pn ++ pins, p.1 ≠ a) :
    Inv X pins σ (upd H a (ExV cls d a)) s := by
  obtain ⟨g1, g2, g3, g4, g5⟩ := I.pin (a, oe) (List.mem_append_right _ List.mem_cons_self)
  have keepH : ∀ b o, H b = some o → upd H a (ExV cls d a) b = some o := fun b o q => by
    rw [upd_ne (ne_of_none q g2)]
    exact q
  refine ⟨I.ok, I.os, I.bare, ?_, I.loc, I.cell, ?_, ?_, ?_, ?_, I.len⟩
  · refine ⟨I.base.keep, I.base.slot, fun b u q n hx => ?_, I.base.there, fun b xs q => keepH _ _ (I.base.tups b xs q), fun b u xs q => keepH _ _ (I.base.frzs b u xs q), fun b ps q => ?_⟩
    · rw [upd_ne (fun z => by rw [z, new0] at q; cases q)]
      exact I.base.free b u q n hx
    · obtain ⟨more, q'⟩ := I.base.tbls b ps q
      exact ⟨more, keepH _ _ q'⟩
  · rw [upd_ne (Ne.symm g3)]
    exact I.free
  · intro y c hc
    rw [upd_ne (fun z => ?_)]
    · exact I.freeC y c hc
    · obtain ⟨v, o, ho, hv⟩ := I.cell y c hc
      rw [z] at ho
      have g1' : s.heap.get? a = some oe := g1
      rw [g1'] at ho
      cases ho
      exact g5 v hv
  · intro p hp
    have hp' : p ∈ X.pn ++ ((a, oe) :: pins) := by
      rcases List.mem_append.mp hp with h | h
      · exact List.mem_append_left _ h
      · exact List.mem_append_right _ (List.mem_cons_of_mem _ h)
    obtain ⟨k1, k2, k3, k4, k5⟩ := I.pin p hp'
    exact ⟨k1, by rw [upd_ne (npin p hp)]; exact k2, k3, k4, k5⟩
  · exact HOk.laidN I.hok (fun _ _ q => q) g2 ⟨⟨oe, vs, g1, hz, hd⟩, ⟨oe, g1⟩, fun _ _ ⟨o, v, q, r⟩ k => ⟨o, v, k o q, r⟩⟩
end
section
variable {X : Cx} {x n y : Str} {c : Value} {i j : Nat} {body : List Stmt} {np py pn pa pos pos' : Pos} {tb : WX → TS} {Wo : WX}
theorem ps_try_keep (hs : X.stack = X.env :: X.outer) (hf : X.env.frame = some X.env.locals) (hex : X.ex = []) (hN : X.N.Nodup) (hij : i ≠ j) (hi : X.N[i]? = some n) (hln : X.env.kindOf n = some .local) (hj : X.N[j]? = some y) (hly : Loc X.env.scope y) (hly2 : X.env.scope.names.lookup y = some .local)
    (hvn : Vis X.env.scope n) (hc : Names X x c) (tk : Takes X Wo) (dn1 : (n == ("__debug__" : Str)) = false := by decide) (dn2 : (n == ("__classdict__" : Str)) = false := by decide)
    (hsw : swapsWith (.Name n pn) (some (.Name y py)) pa.line X.env = pure false := by rfl)
    (hb : ∀ (W : WX) (pl : List (Addr × Obj)) (xe : Value → Shared → Prop), Takes (X.tr pl xe) W → PassesOwn (model X.prog X.w) X.A X.env xe → PSs (X.tr pl xe) body (tb W)) :
    PS X (.Try body [.ExceptHandler (some (.Name x np)) (some n) [.Assign [.Name y py] (.Name n pn) pa] pos'] [] [] pos) (fun D σ H => tb (wKeep X.K c i j Wo D) D σ H) := by
  refine ⟨fun pins s σ H D I hq => ?_⟩
  have okX := I.ok
  have frX : X.A.frames = some (X.env :: X.outer) := by rw [okX.frames, hs]
  have locn : Loc X.env.scope n := .inl hln
  refine wpAny_Try_except ?_
  let hnd : List ExceptHandler := [.ExceptHandler (some (.Name x np)) (some n) [.Assign [.Name y py] (.Name n pn) pa] pos']
  let xe1 : Value → Shared → Prop := fun e s1 => wpAny (model X.prog X.w) X.A (noteFrame e X.env) (fun _ s2 => wpAny (model X.prog X.w) X.A (setFlight e none) (fun _ s3 => wpAny (model X.prog X.w) X.A (handleBy e X.env hnd) (SP X pins D) X.xe s3) X.xe s2) X.xe s1
  have tkb : Takes (X.tr (X.pn ++ pins) xe1) (wKeep X.K c i j Wo D) := by
    intro u s' xx
    obtain ⟨a, B, sI, pins', σ', H', cls, d, rfl, J', nb, up, sky, na, os, ag, b, hb1, hyes, hno⟩ := xx
    have Jn : Inv X pins σ' H' sI := J'.ofTry okX
    have skyX : Sky B (X.env :: X.outer) a (Zc cls d) X.env.locals s'.heap := by rw [← hs]; exact sky
    have nBa : B.get? a = none := by
      rcases skyX with q | q | q
      · exact q.2.1
      · exact q.2.1
      · exact q.2.1
    show wpAny (model X.prog X.w) X.A (noteFrame (.ref a) X.env) _ _ _
    refine Sky.land Zc.steady frX hf skyX fun ha fa upa => ?_
    have Ja : Inv X pins σ' H' { s' with heap := ha } := Jn.landed nb fa.1 (up.trans upa) os ag
    obtain ⟨oa, va, ea, za, da⟩ := fa.there
    have notFr : a ∉ frs (X.env :: X.outer) := fun hm => by
      obtain ⟨_, o', e', hnf⟩ := fa.2.2.1.mem hm
      rw [ea] at e'
      cases e'
      exact hnf _ da
    have nL : a ≠ X.env.locals := fun z => notFr (List.mem_filterMap.mpr ⟨X.env, List.mem_cons_self, by rw [hf, z]⟩)
    have nF : a ∉ X.fs := fun hm => by
      obtain ⟨e1, he1, q⟩ := List.mem_filterMap.mp hm
      exact notFr (List.mem_filterMap.mpr ⟨e1, List.mem_cons_of_mem _ he1, q⟩)
    have nI : sI.heap.get? a = none := by
      cases q : sI.heap.get? a with
      | none => rfl
      | some o =>
        have := nb a o q (by show a ∉ frs X.stack; rw [hs]; exact notFr)
        rw [nBa] at this
        cases this
    have new0 : X.s_0.heap.get? a = none := by
      cases q : X.s_0.heap.get? a with
      | none => rfl
      | some o =>
        obtain ⟨o', q'⟩ := Jn.base.there a o q (by rw [hex]; simp)
        rw [nI] at q'
        cases q'
    have npin : ∀ p ∈ X.pn ++ pins, p.1 ≠ a := fun p hp z => by
      have := (Jn.pin p hp).1
      rw [z, nI] at this
      cases this
    have Sa := Ja.suite ea da na nL nF
    refine wpAny_handleBy_cons (codeAny_handlers_test ?_) (by intro q; cases q)
    have lt : PySem.W.Looks (model X.prog X.w) ha (typeOf (.ref a)) cls := fun A Q E s1 k q => wpAny_typeOf_ref (k _ _ ea) (by rw [za.1]; exact q)
    have lm := PySem.W.exm_one (M := model X.prog X.w) (Ja.kIn) lt hb1
    have test : ∀ {Q : Value → Shared → Prop} {E : Value → Shared → Prop}, Q c { s' with heap := ha } → wpAny (model X.prog X.w) (X.A.mark (some (.ref a))) (eval (.Name x np) X.env) Q E { s' with heap := ha } := fun {Q E} q => by
      obtain ⟨hg, hdbg, hm | ⟨hm, hv, hnn⟩⟩ := hc
      · exact ld_glob (X := X.suite a ((a, oa) :: (X.pn ++ pins))) Sa hg hm q hdbg
      · exact ld_blt (X := X.suite a ((a, oa) :: (X.pn ++ pins))) Sa hg hm hv q hnn hdbg
    refine test (lm.here ?_)
    cases b with
    | true =>
      refine codeAny_handlers_suite_as ?_
      refine HandSPX.lands_againZ fa fun hc4 fc upc => ?_
      have Jc : Inv X pins σ' H' { s' with heap := hc4 } := Jn.landed nb fc.1 ((up.trans upa).trans upc) os ag
      obtain ⟨oc, vc, ec, zc, dc⟩ := fc.there
      have Sc := Jc.suite ec dc na nL nF
      refine store_ok (X := X.suite a ((a, oc) :: (X.pn ++ pins))) (v := .ref a) Sc hN hi locn rfl (fun s5 S5 => ?_) (.inr hln)
      have hset : PS (X.suite a ((a, oc) :: (X.pn ++ pins))) (.Assign [.Name y py] (.Name n pn) pa) (tAsg (tVar i) (gName j)) := ps_set (X := X.suite a ((a, oc) :: (X.pn ++ pins))) hN hj hly (pv (X := X.suite a ((a, oc) :: (X.pn ++ pins))) i hi hvn dn1 dn2) hsw (.inr hly2)
      have li : i < σ'.length := by rw [Jn.len]; exact (List.getElem?_eq_some_iff.mp hi).1
      refine wpAny_mono ((pss_one hset).run [] s5 _ H' { nx := fun σ6 H6 => σ6 = (σ'.set i (some (.ref a))).set j (some (.ref a)) ∧ H6 = H', rt := fun _ _ => False } S5 ⟨.ref a, by rw [List.getElem?_set_self li], rfl, rfl⟩) (fun f s6 hsp => ?_) (fun _ _ z => False.elim z)
      cases f with
      | next =>
        obtain ⟨σ6, H6, S6, e6, e7⟩ := hsp
        subst e6 e7
        have J6 : Inv X ((a, oc) :: pins) ((σ'.set i (some (.ref a))).set j (some (.ref a))) H6 s6 := ⟨okX, S6.os, S6.bare, S6.base, S6.loc, S6.cell, S6.free, S6.freeC, fun p hp => S6.pin p (by
          rcases List.mem_append.mp hp with h | h
          · exact List.mem_append_left _ (List.mem_cons_of_mem _ (List.mem_append_left _ h))
          · rcases List.mem_cons.mp h with h | h
            · exact List.mem_append_left _ (by rw [h]; exact List.mem_cons_self)
            · exact List.mem_append_left _ (List.mem_cons_of_mem _ (List.mem_append_right _ h))), S6.hok, S6.len⟩
        refine gone_ok J6 hN hi hln fun s7 J7 => ?_
        have A7 := adopt J7 zc dc new0 npin
        refine ⟨_, _, A7, ?_⟩
        have e8 : ((σ'.set i (some (V.ref a))).set j (some (V.ref a))).set i none = (σ'.set j (some (V.ref a))).set i none := by rw [List.set_comm _ _ hij, List.set_set]
        rw [e8]
        exact hyes rfl a na
      | brk =>
        obtain ⟨σ6, H6, S6, q6⟩ := hsp
        exact q6.elim
      | cont =>
        obtain ⟨σ6, H6, S6, q6⟩ := hsp
        exact q6.elim
      | ret u =>
        obtain ⟨v6, σ6, H6, S6, r6, q6⟩ := hsp
        exact q6.elim
    | false =>
      show wpAny _ X.A (handleBy (.ref a) X.env []) _ _ _
      refine wpAny_handleBy_nil ?_
      obtain ⟨k1, k2, k3, oe, vs, T, oT, ts', he, hz, hd, h1, hr⟩ := id fa
      unfold PySem.passOn
      refine wpAny_bind (wpAny_field he hd h1 ?_)
      rw [if_neg (show ¬ ((Value.ref T == Value.none) = true) from by simp)]
      have fin : wpAny (model X.prog X.w) X.A (setFlight (.ref a) X.env.frame) (fun _ s4 => wpAny (model X.prog X.w) X.A (throw (.ref a) : Sem Flow) (SP X pins D) X.xe s4) X.xe { s' with heap := ha } := by
        rw [hf]
        refine HandSPX.setFlight_upZ fa fun h4 hh4 up4 => wpAny_throw (tk _ _ ?_)
        exact ⟨a, B, sI, pins, σ', H', cls, d, rfl, Jn, nb, (up.trans upa).trans up4, .inr (.inr (by rw [hs]; exact hh4)), na, os, ag, hno rfl⟩
      first
        | exact wpAny_bind (wpAny_pure (wpAny_bind fin))
        | exact wpAny_bind fin
  refine wpAny_mono ((hb (wKeep X.K c i j Wo D) (X.pn ++ pins) xe1 tkb PassesOwn.looking).run [] s σ H D (I.toTry _) hq) (fun f s1 hsp => ?_) (fun e s1 he => he)
  cases f with
  | next => obtain ⟨σ1, H1, J1, q⟩ := hsp; exact wpAny_execs_nil ⟨σ1, H1, J1.ofTry okX, q⟩
  | brk => obtain ⟨σ1, H1, J1, q⟩ := hsp; exact ⟨σ1, H1, J1.ofTry okX, q⟩
  | cont => obtain ⟨σ1, H1, J1, q⟩ := hsp; exact ⟨σ1, H1, J1.ofTry okX, q⟩
  | ret u => obtain ⟨v, σ1, H1, J1, r, q⟩ := hsp; exact ⟨v, σ1, H1, J1.ofTry okX, r, q⟩
end
end G
set_option Elab.async false
set_option linter.all false
set_option maxRecDepth 100000
/-! try .. except X as e: y = e, over data; what may be asked of a held exception; a word that is never come to -/
namespace G
open PySem PySem.Spec PyProof.Rows L2
section
variable {X : Cx} {W : WX} {pos : Pos}
theorem tk0 : Takes X WF := fun u s' ⟨_, _, _, _, _, _, _, _, _, _, _, _, _, _, _, _, z⟩ => z.elim
theorem roomU {k : Nat} {A : Around} (r : Room k A) : A.units + 65 < cLine := by have := r.un; omega
theorem roomU1 {k : Nat} {A : Around} (r : Room k A) : A.units + 1 < cLine := by have := r.un; omega
/-- what the clauses tell of classes, by their names -/
def tblL (l : List (Str × Bool)) : Str → Option Bool := fun nm => (l.find? fun p => decide (p.1 = nm)).map (·.2)
/-- an expression that is never come to -/
def eBad : XE := fun _ => .bad
theorem se_bad {x : Expr} : SE X W x eBad := ⟨fun pins s σ H Q I ⟨B, e, Z, R0, hq⟩ => hq.elim⟩
/-! ### try -/
def sTry (i j : Nat) (tbl : Str → Option Bool) (p : XS) : XS := fun e => match p e with
  | .ex x e1 => match tbl x.cls with
    | some true => .ok .nx ((e1.set j (.raw x)).set i .un)
    | some false => .ex x e1
    | none => .bad
  | r => r
/-- what an except clause of the class c says of the classes that tbl tells of -/
def TblE (K : Frag) (c : Value) (tbl : Str → Option Bool) : Prop := ∀ (nm : Str) (c' : Value) (b : Bool), PySem.W.nsIn K mainGlobals nm = some (some c') → tbl nm = some b → PySem.W.exmOne K c' c = some b
theorem ss_try {x n y : Str} {c : Value} {i j : Nat} {body : List Stmt} {np py pn pa pos' : Pos} {tbl : Str → Option Bool} {p : XS} (ht : TblE X.K c tbl) (hs : X.stack = X.env :: X.outer) (hf : X.env.frame = some X.env.locals) (hex : X.ex = []) (hN : X.N.Nodup) (hij : i ≠ j) (hi : X.N[i]? = some n) (hln : X.env.kindOf n = some .local) (hj : X.N[j]? = some y) (hly : Loc X.env.scope y) (hly2 : X.env.scope.names.lookup y = some .local)
    (hvn : Vis X.env.scope n) (hc : Names X x c) (tk : Takes X W)
    (hb : ∀ (W : WX) (pl : List (Addr × Obj)) (xe : Value → Shared → Prop), Takes (X.tr pl xe) W → SB (X.tr pl xe) W body p)
    (dn1 : (n == ("__debug__" : Str)) = false := by decide) (dn2 : (n == ("__classdict__" : Str)) = false := by decide)
    (hsw : swapsWith (.Name n pn) (some (.Name y py)) pa.line X.env = pure false := by rfl) :
    SS X W (.Try body [.ExceptHandler (some (.Name x np)) (some n) [.Assign [.Name y py] (.Name n pn) pa] pos'] [] [] pos) (sTry i j tbl p) := by
  refine PS.imp (ps_try_keep (tb := fun W => RSt X.K X.mg W p) hs hf hex hN hij hi hln hj hly hly2 hvn hc tk dn1 dn2 hsw fun W pl xe tk' _ => hb W pl xe tk') fun Dn σ H ⟨B, e, Z, R0, hq⟩ => ⟨B, e, Z, R0, ?_⟩
  unfold sTry at hq
  cases hp : p e with
  | bad => rw [hp] at hq; exact hq
  | ok f e1 =>
    rw [hp] at hq
    cases f with
    | nx => exact hq
    | bk => exact hq
    | ct => exact hq
    | rt d => exact hq
    | rn d => exact hq
  | ex w e1 =>
    rw [hp] at hq
    intro c' dd σ' Z' H' s1 R1 xx
    obtain ⟨xn, xf⟩ := xx
    dsimp only at hq
    cases hb : tbl w.cls with
    | none => rw [hb] at hq; exact hq.elim
    | some b =>
      rw [hb] at hq
      refine ⟨b, ht _ _ _ xn hb, fun hbt a ha => ?_, fun hbf => ?_⟩
      · subst hbt
        obtain ⟨R2, s2⟩ := R1.new (o := ExV c' dd a) ha
        have q2 : XvOk X.K (upd Z' a (ExV c' dd a)) w (.ref a) := ⟨a, c', dd, rfl, upd_same, xn, xf.mono s2⟩
        exact hq _ _ _ (s1.trans s2) ((R2.setRaw (i := j) q2).setUn (i := i))
      · subst hbf
        exact hq c' dd σ' Z' H' s1 R1 ⟨xn, xf⟩
theorem exm_mk {K : Frag} {cls : Value} {C : Addr} {b : Bool} (h1 : PySem.W.subIn K (.ref C) (.type "BaseException") = some true) (h2 : PySem.W.isClsIn K C = true) (h3 : PySem.W.typeIn K (.ref C) = some (.type "type")) (h4 : PySem.W.subIn K cls (.ref C) = some b) : PySem.W.exmOne K cls (.ref C) = some b := by
  have q1 : (PySem.W.subIn K (.ref C) (.type "BaseException") == some true) = true := by rw [h1]; rfl
  have q2 : ((PySem.W.clsIn K C).isSome && PySem.W.typeIn K (.ref C) == some (.type "type")) = true := by
    rw [h3, show (PySem.W.clsIn K C).isSome = true from h2]; rfl
  unfold PySem.W.exmOne PySem.W.kitCls
  rw [if_pos q1]
  dsimp only
  rw [if_pos q2]
  exact h4
theorem tblE_nil {K : Frag} {c : Value} : TblE K c (tblL []) := fun _ _ _ _ h => by cases h
theorem tblE_cons {K : Frag} {c : Value} {nm : Str} {D : Addr} {b : Bool} {l : List (Str × Bool)} (hn : PySem.W.nsIn K mainGlobals nm = some (some (.ref D))) (he : PySem.W.exmOne K (.ref D) c = some b) (h : TblE K c (tblL l)) : TblE K c (tblL ((nm, b) :: l)) := fun nm' c' b' hn' ht => by
  by_cases e : nm = nm'
  · subst e
    rw [hn] at hn'
    cases hn'
    have : tblL ((nm, b) :: l) nm = some b := by simp [tblL]
    rw [this] at ht
    cases ht
    exact he
  · have : tblL ((nm, b) :: l) nm' = tblL l nm' := by simp [tblL, e]
    rw [this] at ht
    exact h nm' c' b' hn' ht
/-! ### is None of a name that holds an exception or not -/
def isNX : Sl → Option Bool
  | .dat d => some (dIsN d)
  | .raw _ => some false
  | _ => none
def eIsNX (i : Nat) : XE := fun e => match e[i]? with
  | some s => match isNX s with
    | some b => .ok (.bool b) e
    | none => .bad
  | none => .bad
def eNotNX (i : Nat) : XE := fun e => match e[i]? with
  | some s => match isNX s with
    | some b => .ok (.bool (!b)) e
    | none => .bad
  | none => .bad
theorem nx_read {K : Frag} {B : Bs} {e : En} {σ : L2.St} {Z H : Hp} {i : Nat} {s : Sl} {b : Bool} (R0 : Rl K B e σ Z H) (he : e[i]? = some s) (hb : isNX s = some b) : ∃ v, σ[i]? = some (some v) ∧ decide (v = .non) = b := by
  cases s with
  | un => cases hb
  | own t o => cases hb
  | scr ds => cases hb
  | dat d =>
    cases hb
    obtain ⟨v, e1, e2⟩ := R0.dat he
    exact ⟨v, e1, isN_of e2⟩
  | raw x =>
    cases hb
    obtain ⟨v, e1, a, c, dd, rfl, _⟩ := R0.raw he
    exact ⟨_, e1, by simp⟩
theorem se_isNX {i : Nat} {x : Str} {j} {px pos' : Pos} (h : PE X (.Name x px) (tVar i)) : SE X W (.Compare (.Name x px) [.Is] [.Constant .none j pos'] pos) (eIsNX i) := by
  refine PE.imp (pe_cmp (pc_isN h) rfl) fun σ H Q ⟨B, e, Z, R0, hq⟩ => ?_
  unfold eIsNX at hq
  split at hq
  · rename_i s he
    split at hq
    · rename_i b hb
      obtain ⟨v, e1, e2⟩ := nx_read R0 he hb
      refine ⟨v, e1, ?_⟩
      dsimp only
      rw [e2]
      exact hq _ Z H (Same.refl _) R0 (.bl _)
    · exact hq.elim
  · exact hq.elim
theorem se_notNX {i : Nat} {x : Str} {j} {px pos' : Pos} (h : PE X (.Name x px) (tVar i)) : SE X W (.Compare (.Name x px) [.IsNot] [.Constant .none j pos'] pos) (eNotNX i) := by
  refine PE.imp (pe_cmp (pc_notN h) rfl) fun σ H Q ⟨B, e, Z, R0, hq⟩ => ?_
  unfold eNotNX at hq
  split at hq
  · rename_i s he
    split at hq
    · rename_i b hb
      obtain ⟨v, e1, e2⟩ := nx_read R0 he hb
      refine ⟨v, e1, ?_⟩
      dsimp only
      rw [e2]
      exact hq _ Z H (Same.refl _) R0 (.bl _)
    · exact hq.elim
  · exact hq.elim
theorem st_isNX {i : Nat} {x : Str} {j} {px pos' : Pos} (h : PE X (.Name x px) (tVar i)) : ST X W (.Compare (.Name x px) [.Is] [.Constant .none j pos'] pos) (tOf (eIsNX i)) := by
  refine st_B (PT.imp (pt_cmp (pc_isN h) rfl) fun σ H Q ⟨B, e, Z, R0, hq⟩ => ?_)
  unfold eIsNX at hq
  split at hq
  · rename_i s he
    split at hq
    · rename_i b hb
      obtain ⟨v, e1, e2⟩ := nx_read R0 he hb
      refine ⟨v, e1, ?_⟩
      dsimp only
      rw [e2]
      exact hq _ Z H (Same.refl _) R0 (.bl _)
    · exact hq.elim
  · exact hq.elim
theorem st_notNX {i : Nat} {x : Str} {j} {px pos' : Pos} (h : PE X (.Name x px) (tVar i)) : ST X W (.Compare (.Name x px) [.IsNot] [.Constant .none j pos'] pos) (tOf (eNotNX i)) := by
  refine st_B (PT.imp (pt_cmp (pc_notN h) rfl) fun σ H Q ⟨B, e, Z, R0, hq⟩ => ?_)
  unfold eNotNX at hq
  split at hq
  · rename_i s he
    split at hq
    · rename_i b hb
      obtain ⟨v, e1, e2⟩ := nx_read R0 he hb
      refine ⟨v, e1, ?_⟩
      dsimp only
      rw [e2]
      exact hq _ Z H (Same.refl _) R0 (.bl _)
    · exact hq.elim
  · exact hq.elim
/-! ### isinstance of a held exception -/
/-- what isinstance asks of the class at D -/
structure IsC (K : Frag) (D : Addr) : Prop where
  cl : PySem.W.isClsIn K D = true
  ga : PySem.W.findIn K (.ref D) "__getattribute__" = some (some (.builtin "BaseException.__getattribute__"))
  gt : PySem.W.findIn K (.ref D) "__getattr__" = some none
  sb : PySem.W.subIn K (.ref D) (.type "BaseException") = some true
  ca : PySem.W.findIn K (.ref D) "__class__" = some (some (.builtin "object.__class__"))
  sp : PySem.W.specialIn K (.builtin "object.__class__") "__get__" = some (some (.builtin "getset_descriptor.__get__"))
  tk : PySem.W.takesIn K (.builtin "object.__class__") = some true
  mo : PySem.W.mroIn K D (.type "object") = some true
def rIsHeld (K : Frag) : List V → Hp → VK → Prop := fun xs H Q => ∃ (a D : Addr) (dd : Option Addr) (c : V) (cv : Value) (b : Bool), xs = [.ref a, c] ∧ H a = some (ExV (.ref D) dd a) ∧ (∀ d, dd = some d → ∃ ws, H d = some (.xd ws)) ∧ IsC K D ∧ (∀ u, RelV c u → u = cv) ∧ PySem.W.kitOne K (.ref D) cv = some b ∧ Q (.bl b) H
theorem call_isHeld : CallR X (.builtin "isinstance") (rIsHeld X.K) := by
  intro pins s σ H xs us Q I r h
  obtain ⟨a, D, dd, c, cv, b, rfl, ha, hdd, C, hcv, e, q⟩ := h
  cases r with
  | cons rx rr =>
    cases rr with
    | cons rt rr =>
      cases rr
      cases rx
      have ec := hcv _ rt
      subst ec
      obtain ⟨⟨oe, vs, hget, hz, hdat⟩, _, _⟩ := I.hok a _ ha
      have J : ∃ od, PySem.W.InstAt s.heap a oe D od := by
        obtain ⟨oc, odd, oda, osl⟩ := oe
        obtain ⟨h1, h2⟩ := hz
        dsimp only at h1 h2 hdat
        subst h1 h2 hdat
        cases odd with
        | none => exact ⟨none, hget, rfl, rfl, trivial⟩
        | some d =>
          obtain ⟨ws, hd⟩ := hdd d rfl
          obtain ⟨mA, hns, _⟩ := (show ObjOk X.prog X.w H s.heap d (.xd ws) from I.hok d _ hd)
          obtain ⟨od, ho, _⟩ := lookIn_ns hns
          exact ⟨some od, hget, rfl, rfl, ho⟩
      obtain ⟨od, J⟩ := J
      exact PySem.W.kia_one (PySem.W.kitx_exc C.cl C.ga C.gt C.sb C.ca C.sp C.tk C.mo) I.kIn J e (fun z => nomatch z) fun tk => ⟨.bl b, H, I.kept (t' := tk) fun _ _ z => z, rfl, q⟩
def eIsX (i : Nat) (tbl : Str → Option Bool) : XE := fun e => match e[i]? with
  | some (.raw x) => match tbl x.cls with
    | some b => .ok (.bool b) e
    | none => .bad
  | _ => .bad
def TblI (K : Frag) (cv : Value) (tbl : Str → Option Bool) : Prop := ∀ (nm : Str) (c' : Value) (b : Bool), PySem.W.nsIn K mainGlobals nm = some (some c') → tbl nm = some b → ∃ D, c' = .ref D ∧ IsC K D ∧ PySem.W.kitOne K (.ref D) cv = some b
theorem tblI_nil {K : Frag} {c : Value} : TblI K c (tblL []) := fun _ _ _ _ h => by cases h
theorem tblI_cons {K : Frag} {c : Value} {nm : Str} {D : Addr} {b : Bool} {l : List (Str × Bool)} (hn : PySem.W.nsIn K mainGlobals nm = some (some (.ref D))) (C : IsC K D) (he : PySem.W.kitOne K (.ref D) c = some b) (h : TblI K c (tblL l)) : TblI K c (tblL ((nm, b) :: l)) := fun nm' c' b' hn' ht => by
  by_cases e : nm = nm'
  · subst e
    rw [hn] at hn'
    cases hn'
    have : tblL ((nm, b) :: l) nm = some b := by simp [tblL]
    rw [this] at ht
    cases ht
    exact ⟨D, rfl, C, he⟩
  · have : tblL ((nm, b) :: l) nm' = tblL l nm' := by simp [tblL, e]
    rw [this] at ht
    exact h nm' c' b' hn' ht
theorem se_isX {i : Nat} {x Ts : Str} {c : V} {cv : Value} {tbl : Str → Option Bool} {p1 p2 px : Pos} (ht : TblI X.K cv tbl) (hcv : ∀ u, RelV c u → u = cv) (hg : Gl X "isinstance") (hm : X.mg "isinstance" = none) (ha : PE X (.Name x px) (tVar i)) (hT : PE X (.Name Ts p2) (tC c))
    (he : starEach [.Name x px, .Name Ts p2] X.env = (false, eval (.Name x px) X.env) :: starEach [.Name Ts p2] X.env := by rfl) (he2 : starEach [.Name Ts p2] X.env = (false, eval (.Name Ts p2) X.env) :: starEach [] X.env := by rfl) (hpl : (backTo pos (starEach [.Name Ts p2] X.env)).any (·.1) = false := by rfl) :
    SE X W (.Call (.Name "isinstance" p1) [.Name x px, .Name Ts p2] [] pos) (eIsX i tbl) := by
  refine PE.imp (pe_callB call_isHeld hg hm (by decide +kernel) (pa_cons ha (pa_cons hT pa_nil he2) he) (by decide) (by decide) he hpl) fun σ H Q ⟨B, e, Z, R0, hq⟩ => ?_
  unfold eIsX at hq
  split at hq
  · rename_i w hw
    split at hq
    · rename_i b hb
      obtain ⟨v, e1, a, c', dd, rfl, za, xn, xf⟩ := R0.raw hw
      obtain ⟨D, rfl, C, hk⟩ := ht _ _ _ xn hb
      refine ⟨_, e1, a, D, dd, c, cv, b, rfl, R0.sub _ _ za, fun d hd => ?_, C, hcv, hk, hq _ Z H (Same.refl _) R0 (.bl _)⟩
      rcases xf with ⟨_, xf⟩ | ⟨d', ws, e3, e4, _⟩
      · rw [xf] at hd; cases hd
      · rw [e3] at hd; cases hd
        exact ⟨ws, R0.sub _ _ e4⟩
    · exact hq.elim
  · exact hq.elim
end
end G
set_option Elab.async false
set_option linter.all false
set_option maxRecDepth 100000
/-! xs.count(d), xs.index(d) of any data; a name's own dict: {}, d[k] = v, d[k]; len(set(list of ints)) -/
namespace G
open PySem PySem.Spec PyProof.Rows L2
section
variable {X : Cx} {W : WX} {pos : Pos}
def rCntD (K : Frag) : V → List V → Hp → VK → Prop := fun x xs H Q => ∃ (a : Addr) (y : V) (d : PyData) (ds : List PyData), x = V.ref a ∧ xs = [y] ∧ Dp K H (V.ref a) (.list ds) ∧ Dp K H y d ∧
  SeqAt.shaped (.list ds) = true ∧ SeqAt.shaped d = true ∧ Q (.int ((ds.countP fun z => PyData.eqv z d : Nat) : Int)) H
theorem mt_cntD (hu : X.A.units + 65 < cLine) : MtR X "list.count" (rCntD X.K) := by
  intro pins s σ H x xs v us Q I rx rxs h
  obtain ⟨a, y, d, ds, rfl, rfl, hl, hy, sl, sd, q⟩ := h
  cases rx
  obtain ⟨uy, rfl, ry⟩ := rxs.one
  obtain ⟨bs, r1⟩ := Dp.reads I d y uy hy ry
  have lay : PyData.canLayAll0 ds = true := SeqAt.canLay_of_shaped sl
  have room : X.A.units + 1 + min (PyData.depthAll ds) d.depth < cLine := room_in_shaped sd hu
  cases hl with
  | lst hs ha =>
    obtain ⟨its, rv, ⟨⟨cls, dd, data, sls⟩, n, ho, hc, hdn, hdt⟩, hlen⟩ := I.list hs
    simp only at hc hdt
    subst hc hdt
    obtain ⟨as, h4⟩ := Dp.readsAll I ds _ its ha rv
    have hmap : its.map (SeqAt.readOf s.heap) = ds := SeqAt.readsAll_map ds its as lay h4
    have hcnt : its.toArray.toList.countP (fun u => PyData.eqv (SeqAt.readOf s.heap u) d) = ds.countP fun z => PyData.eqv z d := by
      rw [← hmap, List.countP_map] <;> rfl
    refine call_meets PySem.F.slot_list_count ⟨_, ho, rfl⟩ PySem.F.entry_list_count (PySem.F.args_list_count_2 _ _)
      (SeqAt.list_countAt a its.toArray n dd sls uy (fun u => PyData.eqv (SeqAt.readOf s.heap u) d)) ⟨ho, SeqAt.items_eqAt (vs := its.toArray) (show ReadsAll s.heap its.toArray.toList ds as from h4) r1 lay (SeqAt.canLay_of_shaped sd) room, ?_⟩
    rw [hcnt]
    exact ⟨.int _, H, I.tok _, ⟨_, rfl⟩, q⟩
def dCntD : D → List D → Option D
  | .list xs, [d] => if SeqAt.shaped (.list xs) = true ∧ SeqAt.shaped d = true then some (.int ((xs.countP fun z => PyData.eqv z d : Nat) : Int)) else none
  | _, _ => none
theorem ok_cntD {K : Frag} : OkM K (rCntD K) dCntD := by
  intro Z H x xs c ds d Q s D1 D2 e k
  unfold dCntD at e
  split at e
  · split at e
    · rename_i hc
      cases e
      obtain ⟨a, ws, rfl, h1, h2⟩ := dp_list D1
      obtain ⟨v, rfl, hv⟩ := dpa_1 D2
      exact ⟨a, v, _, _, rfl, rfl, (dp_mono s D1).dp, (dp_mono s hv).dp, hc.1, hc.2, k _ Z H (Nw.refl s) (.int _)⟩
    · cases e
  · cases e
def dIdxD : D → List D → Option D
  | .list xs, [d] => if SeqAt.shaped (.list xs) = true ∧ SeqAt.shaped d = true then (xs.findIdx? fun z => PyData.eqv z d).map fun j => .int (j : Nat) else none
  | _, _ => none
theorem ok_idxD {K : Frag} : OkM K (rIndexD K) dIdxD := by
  intro Z H x xs c ds d Q s D1 D2 e k
  unfold dIdxD at e
  split at e
  · split at e
    · rename_i ys d2 hc
      cases hf : ys.findIdx? fun z => PyData.eqv z d2 with
      | none => rw [hf] at e; cases e
      | some j =>
        rw [hf] at e
        cases e
        obtain ⟨a, ws, rfl, h1, h2⟩ := dp_list D1
        obtain ⟨v, rfl, hv⟩ := dpa_1 D2
        obtain ⟨g1, g2, g3⟩ := List.findIdx?_eq_some_iff_getElem.mp hf
        refine ⟨a, v, _, _, j, ys[j], rfl, rfl, (dp_mono s D1).dp, (dp_mono s hv).dp, hc.1, hc.2, List.getElem?_eq_getElem g1, g2, fun m z hm hz => ?_, k _ Z H (Nw.refl s) (.int _)⟩
        obtain ⟨hml, rfl⟩ := List.getElem?_eq_some_iff.mp hz
        simpa using g3 m hm
    · cases e
  · cases e
section
variable {o a : Expr} {ap : Pos} {p : XE} {q : XA}
theorem se_cntD (hu : X.A.units + 65 < cLine) (ho : SE X W o p) (ha : SA X W [a] q) (hbase : attributeBase o "count" X.env (eval o X.env) = eval o X.env := by rfl)
    (hfew : ((backTo pos (starEach [a] X.env)).all (fun x => !x.1) && (backToKw pos (keywordEach [] X.env)).all (fun x => x.1.isSome)
      && decide ([a].length + ([] : List Keyword).length + (if ([] : List Keyword).isEmpty then 0 else 1) < 30)) = true := by rfl)
    (hline : (ap.endLine == pos.line) = true := by rfl) (hs : starEach [a] X.env = (false, eval a X.env) :: starEach [] X.env := by rfl) (hplain : (backTo pos (starEach [] X.env)).any (·.1) = false := by rfl) :
    SE X W (.Call (.Attribute o "count" ap) [a] [] pos) (eMeth isLst dCntD p q) :=
  se_tBM tyD_lst ok_cntD (pe_bm PySem.F.plainAttrs_list PySem.F.slot_list_count PySem.F.type_list_count (mt_cntD hu) ho ha hbase hfew hline hs hplain)
theorem se_idxD (hu : X.A.units + 65 < cLine) (ho : SE X W o p) (ha : SA X W [a] q) (hbase : attributeBase o "index" X.env (eval o X.env) = eval o X.env := by rfl)
    (hfew : ((backTo pos (starEach [a] X.env)).all (fun x => !x.1) && (backToKw pos (keywordEach [] X.env)).all (fun x => x.1.isSome)
      && decide ([a].length + ([] : List Keyword).length + (if ([] : List Keyword).isEmpty then 0 else 1) < 30)) = true := by rfl)
    (hline : (ap.endLine == pos.line) = true := by rfl) (hs : starEach [a] X.env = (false, eval a X.env) :: starEach [] X.env := by rfl) (hplain : (backTo pos (starEach [] X.env)).any (·.1) = false := by rfl) :
    SE X W (.Call (.Attribute o "index" ap) [a] [] pos) (eMeth isLst dIdxD p q) :=
  se_tBM tyD_lst ok_idxD (pe_bm PySem.F.plainAttrs_list PySem.F.slot_list_index PySem.F.type_list_index (mt_indexD hu) ho ha hbase hfew hline hs hplain)
end
/-! ### a name's own dict -/
def dKey : D → Option Key
  | .int i => some (.inl i)
  | .str z => some (.inr z)
  | _ => none
theorem dKey_of {K : Frag} {Z : Hp} {v : V} {d : D} {k : Key} (h : Dq K Z v d) (e : dKey d = some k) : v = kV k := by
  unfold dKey at e
  split at e
  · cases e; cases dp_int h; rfl
  · cases e; cases dp_str h; rfl
  · cases e
def valD (kvs : List (Key × D)) (k : Key) : Option D := (kvs.find? fun p => decide (p.1 = k)).map (·.2)
def putD (kvs : List (Key × D)) (k : Key) (d : D) : List (Key × D) :=
  if (kvs.any fun p => decide (p.1 = k)) = true then kvs.map (fun p => if p.1 = k then (p.1, d) else p) else kvs ++ [(k, d)]
abbrev KvOk (K : Frag) (Z : Hp) : List (Key × V) → List (Key × D) → Prop := Paired fun (a : Key × V) (b : Key × D) => a.1 = b.1 ∧ Dq K Z a.2 b.2
theorem kv_any {K : Frag} {Z : Hp} {k : Key} : ∀ {ws : List (Key × V)} {kvs : List (Key × D)}, KvOk K Z ws kvs → (ws.any fun p => decide (p.1 = k)) = kvs.any fun p => decide (p.1 = k)
  | _, _, .nil => rfl
  | _, _, .cons a b => by rw [List.any_cons, List.any_cons, kv_any b, a.1]
theorem kv_val {K : Frag} {Z : Hp} {k : Key} {d : D} : ∀ {ws : List (Key × V)} {kvs : List (Key × D)}, KvOk K Z ws kvs → valD kvs k = some d → ∃ v, valV ws k = some v ∧ Dq K Z v d
  | _, _, .nil, h => by cases h
  | w :: ws, p :: ps, .cons a b, h => by
    by_cases hk : p.1 = k
    · have : valD (p :: ps) k = some p.2 := by simp [valD, hk]
      rw [this] at h
      cases h
      exact ⟨w.2, valV_pos (a.1.trans hk), a.2⟩
    · have : valD (p :: ps) k = valD ps k := by simp [valD, hk]
      rw [this] at h
      obtain ⟨v, h1, h2⟩ := kv_val b h
      exact ⟨v, by rw [valV_neg (fun z => hk (a.1.symm.trans z))]; exact h1, h2⟩
theorem kv_map {K : Frag} {Z : Hp} {k : Key} {v : V} {d : D} (hd : Dq K Z v d) : ∀ {ws : List (Key × V)} {kvs : List (Key × D)}, KvOk K Z ws kvs → KvOk K Z (ws.map fun p => if p.1 = k then (p.1, v) else p) (kvs.map fun p => if p.1 = k then (p.1, d) else p)
  | _, _, .nil => .nil
  | w :: ws, p :: ps, .cons a b => by
    refine .cons ?_ (kv_map hd b)
    dsimp only
    by_cases hk : p.1 = k
    · rw [if_pos hk, if_pos (a.1.trans hk)]; exact ⟨a.1, hd⟩
    · rw [if_neg hk, if_neg (fun z => hk (a.1.symm.trans z))]; exact a
theorem kv_put {K : Frag} {Z : Hp} {k : Key} {v : V} {d : D} (hd : Dq K Z v d) {ws : List (Key × V)} {kvs : List (Key × D)} (h : KvOk K Z ws kvs) : KvOk K Z (putK ws k v) (putD kvs k d) := by
  unfold putK putD
  rw [kv_any h]
  split
  · exact kv_map hd h
  · exact Paired.snoc h ⟨rfl, hd⟩
def sDic (i : Nat) : XS := fun e => .ok .nx (e.set i (.own none (.dic [])))
theorem ss_dic {i : Nat} {x : Str} {pos' dp : Pos} (hN : X.N.Nodup) (hi : X.N[i]? = some x) (hx : Loc X.env.scope x) (hs : swapsWith (.Dict [] [] dp) (some (.Name x pos')) pos.line X.env = pure false := by rfl) (hf : X.fn x = true ∨ X.env.scope.names.lookup x = some .local := by first | exact .inl rfl | exact .inr rfl | assumption) :
    SS X W (.Assign [.Name x pos'] (.Dict [] [] dp) pos) (sDic i) := by
  refine PS.imp (ps_set hN hi hx pe_dnewK hs hf) fun Dn σ H ⟨B, e, Z, R0, hq⟩ => fun p hp => ?_
  have zn : Z p = none := by
    cases q : Z p with
    | none => rfl
    | some u => rw [R0.sub p u q] at hp; cases hp
  have hb : B.H p = none ∨ B.W p := by
    cases hb : B.H p with
    | none => exact .inl rfl
    | some o =>
      by_cases hw : B.W p
      · exact .inr hw
      · rw [R0.keep p o hb hw] at hp; cases hp
  refine hq _ Z _ (Same.refl _) ((R0.new0 hp).setOwn upd_same zn hb (fun ow => ?_) ⟨[], rfl, .nil⟩)
  obtain ⟨⟨u, hu⟩, _⟩ := R0.owns ow
  rw [hu] at hp; cases hp
/-- d[k], d a name's own dict -/
def eGetD (i : Nat) (q : XE) : XE := fun e => match e[i]? with
  | some (.own _ (.dic _)) => (q e).bind fun d e1 => match e1[i]?, dKey d with
    | some (.own _ (.dic kvs)), some k => R.lift (valD kvs k) e1
    | _, _ => .bad
  | _ => .bad
theorem se_getD {i : Nat} {x : Str} {p : Pos} {b : Expr} {q : XE} (hu : X.A.units + 1 < cLine) (ha : PE X (.Name x p) (tVar i)) (hb : SE X W b q) (hs : NoSl b) : SE X W (.Subscript (.Name x p) b pos) (eGetD i q) := by
  refine PE.imp (pe_dget hu ha hb hs) fun σ H Q ⟨B, e, Z, R0, hq⟩ => ?_
  unfold eGetD at hq
  split at hq
  · rename_i t ds he
    obtain ⟨a, u, h1, _⟩ := R0.own he
    refine ⟨_, h1, ?_⟩
    refine rg_bind R0 hq fun v1 Z1 e1 d1 H1 s1 R1 D1 g1 => ?_
    split at g1
    · rename_i t2 kvs k he2 hk
      obtain ⟨d, ed, kk⟩ := pg_lift R1 g1
      obtain ⟨a2, u2, z2, z3, z4, ⟨ws, rfl, z5⟩, _⟩ := R1.own he2
      rw [h1] at z2
      cases z2
      obtain ⟨v, w1, w2⟩ := kv_val z5 ed
      refine ⟨a, v, rfl, ?_, kk _ Z1 H1 (Nw.refl R1.sub) w2⟩
      rw [dKey_of D1 hk, ← w1]
      exact DGet.k z3
    · exact g1.elim
  · exact hq.elim
/-- d[k] = v -/
def sPutD (i : Nat) (q p : XE) : XS := fun e => (p e).bind fun d e1 => match e1[i]? with
  | some (.own _ (.dic _)) => (q e1).bind fun k e2 => match e2[i]?, dKey k with
    | some (.own t (.dic kvs)), some k => if kvs.length < sizeLine then .ok .nx (e2.set i (.own t (.dic (putD kvs k d)))) else .bad
    | _, _ => .bad
  | _ => .bad
theorem ss_putD {i : Nat} {x : Str} {px ps : Pos} {b v : Expr} {q p : XE} (hu : X.A.units + 1 < cLine) (ha : PE X (.Name x px) (tVar i)) (hb : SE X W b q) (hv : SE X W v p)
    (hs : swapsWith v (some (.Subscript (.Name x px) b ps)) pos.line X.env = pure false := by rfl) : SS X W (.Assign [.Subscript (.Name x px) b ps] v pos) (sPutD i q p) := by
  refine PS.imp (ps_dput hu ha hb hv hs) fun Dn σ H ⟨B, e, Z, R0, hq⟩ => ?_
  refine rs_bind R0 hq fun v1 Z1 e1 d1 H1 s1 R1 D1 g1 => ?_
  split at g1
  · rename_i t ds he
    obtain ⟨a, u, h1, _⟩ := R1.own he
    refine ⟨_, h1, ?_⟩
    refine rs_bind R1 g1 fun v2 Z2 e2 d2 H2 s2 R2 D2 g2 => ?_
    split at g2
    · rename_i t2 kvs k he2 hk
      split at g2
      · rename_i hz
        obtain ⟨a2, u2, z2, z3, z4, ⟨ws, rfl, z5⟩, _⟩ := R2.own he2
        rw [h1] at z2
        cases z2
        have hl : ws.length < sizeLine := by rw [Paired.length z5]; exact hz
        refine ⟨a, _, rfl, by rw [dKey_of D2 hk]; exact DPut.k z3 hl, g2 σ Z2 _ (Same.refl _) (R2.write he2 h1 ⟨_, rfl, kv_put (dp_mono s2 D1) z5⟩)⟩
      · exact g2.elim
    · exact g2.elim
  · exact g1.elim
/-! ### len(set(list of ints)) -/
def rLenSO (w : World) : List V → Hp → VK → Prop := fun xs H Q => ∃ (p : Addr) (S : Int → Bool) (n : Nat), xs = [.ref p] ∧ H p = some (SetO w p S n) ∧ n ≤ 4000 ∧ Q (.int (n : Nat)) H
theorem call_lenSO : CallR X (.builtin "len") (rLenSO X.w) := by
  intro pins s σ H xs us Q I r h
  obtain ⟨p, S, n, rfl, hp, hn, q⟩ := h
  rw [Vals.ref1 r]
  obtain ⟨o, es, ep, t, ho, hex, hd, _, _, _, _, hf, hsz, _⟩ := setO_get I hp
  exact call_len_set ho hex hd hf (by rw [hsz]; omega) ⟨.int n, H, I.tok _, ⟨_, by rw [hsz]⟩, q⟩
def dLenSI : List D → Option D
  | [.list xs] => match intsD xs with
    | some ns => if (ascI ns).length ≤ 4000 ∧ ns.length + 1 < scanBound then some (.int ((ascI ns).length : Nat)) else none
    | none => none
  | _ => none
theorem dLenSI_of {ds : List D} {d : D} (h : dLenSI ds = some d) : ∃ ys ns, ds = [.list ys] ∧ intsD ys = some ns ∧ (ascI ns).length ≤ 4000 ∧ ns.length + 1 < scanBound ∧ d = .int ((ascI ns).length : Nat) := by
  unfold dLenSI at h
  split at h
  · split at h
    · split at h
      · rename_i q
        cases h; exact ⟨_, _, rfl, by assumption, q.1, q.2, rfl⟩
      · cases h
    · cases h
  · cases h
theorem se_lenSI {a : Expr} {q : XA} {p p2 pos pos2 : Pos} (hc : X.calm = true) (hg : Gl X "len") (hm : X.mg "len" = none) (hg2 : Gl X "set") (hm2 : X.mg "set" = none) (ha : SA X W [a] q)
    (hs : starEach [a] X.env = (false, eval a X.env) :: starEach [] X.env := by rfl) (hpl : (backTo pos2 (starEach [] X.env)).any (·.1) = false := by rfl)
    (he : starEach [.Call (.Name "set" p2) [a] [] pos2] X.env = (false, eval (.Call (.Name "set" p2) [a] [] pos2) X.env) :: starEach [] X.env := by rfl) :
    SE X W (.Call (.Name "len" p) [.Call (.Name "set" p2) [a] [] pos2] [] pos) (eCall dLenSI q) := by
  refine PE.imp (pe_callB call_lenSO hg hm (by decide +kernel) (pa_cons (pe_callTy (cr_setLI hc) hg2 hm2 (by decide +kernel) ha (by decide) (by decide) hs hpl) pa_nil he) (by decide) (by decide) he rfl) fun σ H Q ⟨B, e, Z, R0, hq⟩ => ?_
  refine rg_bind R0 hq fun v1 Z1 e1 d1 H1 s1 R1 D1 h1 => ?_
  obtain ⟨d, ed, k⟩ := pg_lift R1 h1
  obtain ⟨ys, ns, rfl, hi, hz, hb, rfl⟩ := dLenSI_of ed
  obtain ⟨v, rfl, hv⟩ := dpa_1 D1
  obtain ⟨l, ws, rfl, g1, g2⟩ := dp_list hv
  have ew := dpa_ints g2 hi
  subst ew
  refine ⟨l, ns, rfl, .inl (.inl (R1.sub _ _ g1)), hb, fun p hp => ?_⟩
  have n := Nw.new (o := SetO X.w p (fun j => decide (j ∈ ns)) (ascI ns).length) R1.sub hp
  exact ⟨p, _, _, rfl, upd_same, hz, k _ _ _ n (.int _)⟩
end
end G
set_option Elab.async false
set_option linter.all false
set_option maxRecDepth 100000
/-! exceptions that keep a field: made, raised, held as a value, the field read; str of one that holds a text -/
namespace G
open PySem PySem.Spec PyProof.Rows L2
/-! ### an expression that makes an exception -/
abbrev XM := En → R Xn
def RMk (K : Frag) (mg : Str → Option Value) (W : WX) (p : XM) : L2.St → Hp → XK → Prop := fun σ H Q => ∃ B e Z, Rl K B e σ Z H ∧ match p e with
  | .ok x e1 => ∀ cls dd Z' H', Same Z Z' → Rl K B e1 σ Z' H' → XnOk K mg Z' H' x cls dd → Q cls dd H'
  | .ex x e1 => ∀ cls dd Z' H', Same Z Z' → Rl K B e1 σ Z' H' → XnOk K mg Z' H' x cls dd → W cls dd σ H'
  | .bad => False
abbrev SM (X : Cx) (W : WX) (e : Expr) (p : XM) : Prop := PMk X e (RMk X.K X.mg W p)
section
variable {X : Cx} {W : WX} {pos : Pos}
theorem PMk.imp {e : Expr} {t t' : L2.St → Hp → XK → Prop} (h : PMk X e t) (f : ∀ σ H Q, t' σ H Q → t σ H Q) : PMk X e t' := fun pins s σ H Q I hq => h pins s σ H Q I (f σ H Q hq)
/-- raise e -/
def sRaiseM (p : XM) : XS := fun e => (p e).bind fun x e1 => .ex x e1
theorem ss_raiseM {e : Expr} {p : XM} (hc : X.calm = true) (tk : Takes X W) (h : SM X W e p) : SS X W (.Raise (some e) none pos) (sRaiseM p) := by
  refine PS.imp (ps_raise hc tk h) fun Dn σ H ⟨B, e, Z, R0, hq⟩ => ⟨B, e, Z, R0, ?_⟩
  unfold sRaiseM at hq
  cases hp : p e with
  | ok x e1 =>
    rw [hp] at hq
    exact fun cls dd Z' H' s1 R1 xx => hq cls dd σ Z' H' s1 R1 xx
  | ex x e1 =>
    rw [hp] at hq
    exact fun cls dd Z' H' s1 R1 xx => hq cls dd σ Z' H' s1 R1 xx
  | bad => rw [hp] at hq; exact hq
/-- e as a value that is held -/
theorem mk_value {pins : List (Addr × Obj)} {σ : L2.St} {Q : VK} {u : Value} {s' : Shared} (h : MkP X pins σ (fun cls dd H' => ∀ a, H' a = none → Q (.ref a) (upd H' a (ExV cls dd a))) u s') : EP X pins σ Q u s' := by
  obtain ⟨a, oe, vs, sI, H', cls, d, rfl, I, k, hn, ha, hz, hd, h1, na, os, ag, _, q⟩ := h
  obtain ⟨hp, g, dr, t, o⟩ := sI
  obtain ⟨hp2, g2, dr2, t2, o2⟩ := s'
  have ok : ObjOk X.prog X.w (upd H' a (ExV cls d a)) hp2 a (ExV cls d a) := ⟨⟨oe, vs, ha, hz, hd⟩, ⟨oe, ha⟩, fun _ _ ⟨o, v, q, r⟩ k => ⟨o, v, k o q, r⟩⟩
  exact ⟨.ref a, upd H' a (ExV cls d a), I.call' (ch := []) os (Un.laidN k hn na) (I.hok.laidN k na ok) ag (fun b z => absurd z (by simp)), rfl, q a na⟩
theorem pe_mk {e : Expr} {t : L2.St → Hp → XK → Prop} (h : PMk X e t) : PE X e (fun σ H Q => t σ H fun cls dd H' => ∀ a, H' a = none → Q (.ref a) (upd H' a (ExV cls dd a))) :=
  ⟨fun pins s σ H Q I hq => wpAny_mono (h pins s σ H _ I hq) (fun u s1 hu => mk_value hu) fun _ _ x => x⟩
abbrev XX := En → R Xn
abbrev vX (K : Frag) : Hp → V → Xn → Prop := fun Z v x => XvOk K Z x v
abbrev SX (X : Cx) (W : WX) (e : Expr) (p : XX) : Prop := PE X e (Rg X.K X.mg W (vX X.K) p)
theorem sx_mk {e : Expr} {p : XM} (h : SM X W e p) : SX X W e p := by
  refine PE.imp (pe_mk h) fun σ H Q ⟨B, e, Z, R0, hq⟩ => ⟨B, e, Z, R0, ?_⟩
  unfold Pg at hq
  cases hp : p e with
  | ok x e1 =>
    rw [hp] at hq
    intro cls dd Z' H' s1 R1 xx a ha
    obtain ⟨xn, xf⟩ := xx
    obtain ⟨R2, s2⟩ := R1.new (o := ExV cls dd a) ha
    exact hq (.ref a) _ _ (s1.trans s2) R2 ⟨a, cls, dd, rfl, upd_same, xn, xf.mono s2⟩
  | ex x e1 =>
    rw [hp] at hq
    exact hq
  | bad => rw [hp] at hq; exact hq
/-- an argument that holds an exception -/
def rXv (p : XX) (q : XR) : XR := fun e => (p e).bind fun x e1 => (q e1).bind fun ds e2 => .ok (.raw x :: ds) e2
theorem sr_xv {x : Expr} {xs : List Expr} {p : XX} {q : XR} (ha : SX X W x p) (hr : SR X W xs q) (hs : starEach (x :: xs) X.env = (false, eval x X.env) :: starEach xs X.env := by rfl) : SR X W (x :: xs) (rXv p q) := by
  refine PA.imp (pa_cons ha hr hs) fun σ H Q ⟨B, e, Z, R0, hq⟩ => ?_
  refine rg_bind R0 hq fun v1 Z1 e1 d1 H1 s1 R1 D1 h1 => ?_
  refine rg_bind R1 h1 fun v2 Z2 e2 d2 H2 s2 R2 D2 h2 => ?_
  exact h2 _ Z2 H2 (Same.refl _) R2 (.cons (XvOk.mono s2 D1) D2)
/-! ### C(e), C without an __init__ of its own -/
def mMk1 (nm : Str) (p : XE) : XM := fun e => (p e).bind fun _ e1 => .ok ⟨nm, []⟩ e1
theorem sm_own1 {x : Str} {C : Addr} {a : Expr} {p : XE} {p1 p2 : Pos} (T : ExcT X.K X.mg x C) (q : PySem.W.excIn X.K C [.type "ValueError", .type "Exception", .type "BaseException", .type "object"] "ValueError.__new__" = true) (hg : Gl X x) (ha : SE X W a p)
    (hs : starEach [a] X.env = (false, eval a X.env) :: starEach [] X.env := by rfl) (hdb : (x == ("__debug__" : Str)) = false := by decide) :
    SM X W (.Call (.Name x p1) [a] [] p2) (mMk1 x p) := by
  refine PMk.imp (SkE.pmk_own1 PySem.F.excBase_ValueError q T.g T.k (raises_own T.b T.t) hg ha hs hdb) fun σ H Q ⟨B, e, Z, R0, hq⟩ => ⟨B, e, Z, R0, ?_⟩
  unfold mMk1 at hq
  cases hp : p e with
  | ok d e1 =>
    rw [hp] at hq
    exact fun v Z' H' s1 R1 D1 => hq (.ref C) none Z' H' s1 R1 ⟨T.n, .inl ⟨rfl, rfl⟩⟩
  | ex x e1 => rw [hp] at hq; exact hq
  | bad => rw [hp] at hq; exact hq
/-! ### C(e), C's __init__: F.__init__(self, a text), self.f = the argument -/
/-- what the class F above, F.__init__ ValueError's, must say -/
structure AbvC (K : Frag) (mg : Str → Option Value) (x : Str) (C : Addr) : Prop where
  g : mg x = some (.ref C)
  rd : PySem.W.readsIn K C (.type "type") = true
  ga : PySem.W.specialIn K (.ref C) "__getattribute__" = some (some (.builtin "type.__getattribute__"))
  fi : PySem.W.findCls K (.ref C) (.type "type") "__init__" = some (.val (.builtin "ValueError.__init__"))
theorem pe_abv {x : Str} {C : Addr} {e : Expr} {es : List Expr} {ta : TA} {p1 p2 : Pos} {pl : Sem Bool} (T : AbvC X.K X.mg x C) (hg : Gl X x) (ha : PA X (e :: es) ta)
    (hc : eval (.Call (.Attribute (.Name x p1) "__init__" p2) (e :: es) [] pos) X.env = (do
      let ov ← eval (.Name x p1) X.env
      standAt p2.atName
      let (f, first) ← holding [ov] (getMethod ov "__init__" pl)
      callWith pos f first (backTo pos (starEach (e :: es) X.env)) (backToKw pos (keywordEach [] X.env))) := by rfl)
    (he : starEach (e :: es) X.env = (false, eval e X.env) :: starEach es X.env := by rfl) (hpl : (backTo pos (starEach es X.env)).any (·.1) = false := by rfl) (hdb : (x == ("__debug__" : Str)) = false := by decide) :
    PE X (.Call (.Attribute (.Name x p1) "__init__" p2) (e :: es) [] pos) (tVeI X.K ta) := by
  refine ⟨fun pins s σ H Q I h => ?_⟩
  refine PySem.W.methodCall_KW (ld_glob I hg T.g ?_ hdb) hc
  refine PySem.W.method_cls I.kIn T.ga (PySem.W.cls_value I.kIn T.rd T.fi (by decide +kernel) ?_)
  show wpAny _ _ (callWith pos (Value.builtin "ValueError.__init__") [] (backTo pos (starEach (e :: es) X.env)) []) _ _ _
  refine PyProof.Rows.callWith_method1 (thn (ha.run pos pins _ σ H _ (I.tok _) h) fun us s1 ⟨vs, H1, I1, r1, a, D, ws, ev, hl, T', ea, q⟩ => ?_) he hpl
  subst ev
  cases r1 with
  | @cons _ u0 _ ur ra rw' =>
    obtain rfl : u0 = Value.ref a := ra
    have room : ur.length ≤ sizeLine := by
      have := sizeLine_eq
      have := Paired.length rw'
      omega
    exact oinit_ok T' I1 ea room fun s' J => ⟨.non, H1, J, rfl, q⟩

/-- what of a field's value is allowed: its text is short -/
def fldOk : D → Bool
  | .int i => decide (i.natAbs.log2 < 1920) && decide ((toString i : Str).length ≤ 1000)
  | .str y => decide (y.length ≤ 1000)
  | _ => false
end
def fldV : V → Bool
  | .int i => decide (i.natAbs.log2 < 1920) && decide ((toString i : Str).length ≤ 1000)
  | .str y => decide (y.length ≤ 1000)
  | _ => false
theorem fld_of {K : Frag} {Z : Hp} {v : V} {d : D} (h : Dq K Z v d) (e : fldOk d = true) : fldV v = true := by
  cases h <;> first | exact e | cases e
/-- __init__(self, v): the field f is v -/
def spIn (K : Frag) (C : Addr) (f : Str) : Sp := fun vs H Q _ => ∃ (a : Addr) (v : V), vs = [.ref a, v] ∧ H a = some (exo a C none) ∧ fldV v = true ∧
  ∀ dx, H dx = none → dx ≠ a → Q .non (upd (upd H dx (exd dx [(f, v)])) a (exo a C (some dx)))
/-- the reading of such a body -/
def tInit (K : Frag) (f c : Str) (tf : TE) : TS := tSeq (fun Dn σ H => tVeI K (tCons (tVar 0) (tCons (fun σ H Q => tJs [tC (.str c), tf] Str.empty σ H fun out H1 => Q (.str out) H1) tNil)) σ H fun _ H1 => Dn.nx σ H1) (tOst K f (tVar 0) (tVar 1))
theorem fmt_short (σ : L2.St) (H : Hp) (v : V) (R : VK) (h : σ[1]? = some (some v)) (hv : fldV v = true) (k : ∀ y : Str, y.length ≤ 1000 → R (.str y) H) : tFmt (tVar 1) σ H R := by
  refine ⟨v, h, ?_⟩
  cases v with
  | int i =>
    simp only [fldV, Bool.and_eq_true, decide_eq_true_eq] at hv
    exact .inr ⟨i, rfl, hv.1, k _ hv.2⟩
  | str y =>
    simp only [fldV, decide_eq_true_eq] at hv
    have := sizeLine_eq
    exact .inl ⟨y, rfl, by omega, k _ hv⟩
  | _ => cases hv
theorem str_app_len (a b : Str) : (a ++ b).length = a.length + b.length := by
  show (Str.append a b).cps.size = _
  simp [Str.append, Str.length]
theorem str_emp : (Str.empty : Str).length = 0 := rfl
section
variable {K : Frag} {C : Addr} {f c : Str}
theorem pure_init {tf : TE} (T : OexC K C) (hno : PySem.W.findIn K (.ref C) f = some none) (hc : c.length ≤ 1000) {vs : List V} {H : Hp} {Q : VK} {E : XK} {N : List Str} (hN : N.length = 2)
    (htf : ∀ (σ : L2.St) (H : Hp) (v : V) (R : VK), σ[1]? = some (some v) → fldV v = true → (∀ y : Str, y.length ≤ 1000 → R (.str y) H) → tf σ H R) (h : spIn K C f vs H Q E) : tInit K f c tf { nx := fun _ H' => Q .non H', rt := Q } (L2.start N vs) H := by
  obtain ⟨a, v, rfl, ha, hv, k⟩ := h
  have e : L2.start N [V.ref a, v] = [some (.ref a), some v] := by
    unfold L2.start
    rw [hN]; rfl
  rw [e]
  have z := sizeLine_eq
  refine ⟨.ref a, rfl, ?_⟩
  refine ⟨c, rfl, ?_, ?_⟩
  · rw [str_app_len, str_emp]; omega
  refine htf _ _ v _ rfl hv fun y hy => ⟨y, rfl, ?_, ?_⟩
  · rw [str_app_len, str_app_len, str_emp]; omega
  refine ⟨a, C, _, rfl, by simp, T, ha, ?_⟩
  refine ⟨v, rfl, .ref a, rfl, a, C, rfl, T, hno, .inl ⟨ha, fun dx h1 h2 => k dx h1 h2⟩⟩
end
section
variable {X : Cx} {W : WX} {pos : Pos}
/-- C(e) with the field f -/
def mMkF (nm f : Str) (p : XE) : XM := fun e => (p e).bind fun d e1 => if fldOk d = true then .ok ⟨nm, [(f, d)]⟩ e1 else .bad
theorem sm_oex {x : Str} {C fI : Addr} {k : Nat} {fd : FuncData} {ps : List Str} {f : Str} {e : Expr} {pe : XE} {p : Pos} (hn : PySem.W.nsIn X.K mainGlobals x = some (some (.ref C))) (T : OexC X.K C) (iC : PySem.W.findIn X.K (.ref C) "__init__" = some (some (.ref fI))) (tI : PySem.W.typeIn X.K (.ref fI) = some (.type "function"))
    (F1 : FnOk X.prog X.w X.K X.mg X.base CX0 k fI fd ps (spIn X.K C f)) (hr : Room (k + 1) X.A) (hb : Binds X.K fd ps []) (hg : Gl X x) (hm : X.mg x = some (.ref C)) (ha : SE X W e pe) (hdb : (x == ("__debug__" : Str)) = false := by decide)
    (he : starEach [e] X.env = (false, eval e X.env) :: starEach [] X.env := by rfl) : SM X W (.Call (.Name x p) [e] [] pos) (mMkF x f pe) := by
  refine PMk.imp (pmk_oex (dvs := []) T iC tI F1 hr hb .nil pass0 hg hm (pa_cons ha pa_nil he) hdb he (by rfl)) fun σ H Q ⟨B, e, Z, R0, hq⟩ => ⟨B, e, Z, R0, ?_⟩
  unfold mMkF at hq
  cases hp : pe e with
  | ex x e1 => rw [hp] at hq; exact hq
  | bad => rw [hp] at hq; exact hq
  | ok d e1 =>
    rw [hp] at hq
    simp only [R.bind_ok] at hq
    intro v Z1 H1 s1 R1 D1
    by_cases hf : fldOk d = true
    · rw [if_pos hf] at hq
      refine ⟨by simp, fun a ha => ⟨a, v, rfl, upd_same, fld_of D1 hf, fun dx hdx hne => ?_⟩⟩
      rw [upd_ne hne] at hdx
      refine ⟨rfl, dx, [(f, v)], upd_same, by rw [upd_ne hne, upd_same], hdx, ?_⟩
      have ea : upd (del (upd (upd (upd H1 a (exo a C none)) dx (exd dx [(f, v)])) a (exo a C (some dx))) a) dx (.xd [(f, v)]) = upd H1 dx (.xd [(f, v)]) := by
        funext b
        by_cases hb : b = dx
        · rw [hb, upd_same, upd_same]
        · rw [upd_ne hb, upd_ne hb]
          by_cases hb2 : b = a
          · rw [hb2, del_same, ha]
          · rw [del_ne hb2, upd_ne hb2, upd_ne hb, upd_ne hb2]
      rw [ea]
      obtain ⟨R2, s2⟩ := R1.new (o := .xd [(f, v)]) hdx
      exact hq (.ref C) (some dx) _ _ (s1.trans s2) R2 ⟨hn, .inr ⟨dx, [(f, v)], rfl, upd_same, .cons ⟨rfl, dp_mono s2 D1⟩ .nil⟩⟩
    · rw [if_neg hf] at hq
      exact hq.elim
/-! ### a field of what is held -/
def TblF (K : Frag) (f : Str) (l : List Str) : Prop := ∀ nm ∈ l, ∀ c', PySem.W.nsIn K mainGlobals nm = some (some c') → ∃ D, c' = .ref D ∧ XfC K D ∧ PySem.W.findIn K (.ref D) f = some none
theorem tblF_nil {K : Frag} {f : Str} : TblF K f [] := fun _ h => by cases h
theorem tblF_cons {K : Frag} {f nm : Str} {D : Addr} {l : List Str} (hn : PySem.W.nsIn K mainGlobals nm = some (some (.ref D))) (C : XfC K D) (hf : PySem.W.findIn K (.ref D) f = some none) (h : TblF K f l) : TblF K f (nm :: l) := fun nm' hm c' hc => by
  rcases List.mem_cons.mp hm with e | e
  · subst e
    rw [hn] at hc
    cases hc
    exact ⟨D, rfl, C, hf⟩
  · exact h nm' e c' hc
theorem pe_xfH {e : Expr} {te : TE} {n : Str} (he : PE X e te) (hb : attributeBase e n X.env (eval e X.env) = eval e X.env := by rfl) :
    PE X (.Attribute e n pos) (fun σ H Q => te σ H fun x H1 => ∃ (a D dd : Addr) (ws : List (Str × V)) (v : V), x = .ref a ∧ H1 a = some (ExV (.ref D) (some dd) a) ∧ H1 dd = some (.xd ws) ∧ XfC X.K D ∧ PySem.W.findIn X.K (.ref D) n = some none ∧ ws.lookup n = some v ∧ Q v H1) := by
  refine ⟨fun pins s σ H Q I h => ?_⟩
  refine attr_of hb (thn (he.run pins s σ H _ I h) fun u s1 hh => ?_)
  obtain ⟨x, H1, I1, rx, a, D, dd, ws, v, rfl, ha, hd, T, hno, l, q⟩ := hh
  obtain rfl : u = Value.ref a := rx
  obtain ⟨⟨oe, vs, hget, hz, hdat⟩, _, _⟩ := I1.hok a _ ha
  obtain ⟨mA, hns, hr⟩ := (show ObjOk X.prog X.w H1 s1.heap dd (.xd ws) from I1.hok dd _ hd)
  obtain ⟨od, ho, hl⟩ := lookIn_ns hns
  obtain ⟨u, hu, ru⟩ := RelO.some_of (v := v) (o := mA n) (by rw [← l]; exact hr n)
  have J : PySem.W.InstAt s1.heap a oe D (some od) := ⟨hget, hz.1, by unfold PySem.W.notCls; rw [hdat] <;> rfl, by rw [hz.2]; exact ho⟩
  exact HandSPX.exc_get I1.kIn J T.ga T.gg T.exC (PySem.W.findObj_own T.hdC hno rfl (by rw [hl, hu])) (handed_of ru) ⟨v, H1, I1.tok _, ru, q⟩
theorem pair_lookup {K : Frag} {Z : Hp} {n : Str} {d : D} : ∀ {ws : List (Str × V)} {fs : List (Str × D)}, Paired (fun (p : Str × V) (q : Str × D) => p.1 = q.1 ∧ Dq K Z p.2 q.2) ws fs → fs.lookup n = some d → ∃ v, ws.lookup n = some v ∧ Dq K Z v d
  | _, _, .nil, h => by cases h
  | (a, v) :: ws, (b, d') :: fs, .cons p t, h => by
    obtain ⟨rfl, p2⟩ := p
    by_cases e : n = a
    · subst e
      simp [List.lookup] at h
      subst h
      exact ⟨v, by simp [List.lookup], p2⟩
    · have q : (n == a) = false := by simpa using e
      simp [List.lookup, q] at h ⊢
      exact pair_lookup t h
def eXf (i : Nat) (l : List Str) (f : Str) : XE := fun e => match e[i]? with
  | some (.raw x) => if x.cls ∈ l then R.lift (x.fs.lookup f) e else .bad
  | _ => .bad
theorem se_xf {i : Nat} {l : List Str} {x f : Str} {px : Pos} (ht : TblF X.K f l) (h : PE X (.Name x px) (tVar i)) (hb : attributeBase (.Name x px) f X.env (eval (.Name x px) X.env) = eval (.Name x px) X.env := by rfl) : SE X W (.Attribute (.Name x px) f pos) (eXf i l f) := by
  refine PE.imp (pe_xfH h hb) fun σ H Q ⟨B, e, Z, R0, hq⟩ => ?_
  unfold eXf at hq
  split at hq
  · rename_i y hy
    split at hq
    · rename_i hm
      cases hl : y.fs.lookup f with
      | none => rw [hl] at hq; exact hq.elim
      | some d =>
        rw [hl] at hq
        obtain ⟨u, e1, a, c', dd, rfl, za, xn, xf⟩ := R0.raw hy
        obtain ⟨D, rfl, T, hno⟩ := ht _ hm _ xn
        rcases xf with ⟨e2, _⟩ | ⟨d', ws, rfl, zd, pr⟩
        · rw [e2] at hl; cases hl
        · obtain ⟨v, h1, h2⟩ := pair_lookup pr hl
          exact ⟨_, e1, a, D, d', ws, v, rfl, R0.sub _ _ za, R0.sub _ _ zd, T, hno, h1, hq v Z H (Same.refl _) R0 h2⟩
    · exact hq.elim
  · exact hq.elim
/-! ### str(C(e)), C without an __init__ of its own -/
def eStrX (p : XE) : XE := fun e => (p e).bind fun d e1 => match d with
  | .str y => .ok (.str y) e1
  | _ => .bad
theorem pe_strX {x : Str} {C : Addr} {e : Expr} {te : TE} {p p2 q2 : Pos} (hu : X.A.units + 65 < cLine) (T : ExcT X.K X.mg x C) (q : PySem.W.excIn X.K C [.type "ValueError", .type "Exception", .type "BaseException", .type "object"] "ValueError.__new__" = true)
    (hst : PySem.W.findIn X.K (.ref C) "__str__" = some (some (.builtin "BaseException.__str__"))) (hg : Gl X x) (hg2 : Gl X "str") (hm2 : X.mg "str" = none) (he : PE X e te)
    (hs : starEach [e] X.env = (false, eval e X.env) :: starEach [] X.env := by rfl) (hdb : (x == ("__debug__" : Str)) = false := by decide)
    (na : starEach [.Call (.Name x p) [e] [] q2] X.env = (false, eval (.Call (.Name x p) [e] [] q2) X.env) :: starEach [] X.env := by rfl) :
    PE X (.Call (.Name "str" p2) [.Call (.Name x p) [e] [] q2] [] pos) (fun σ H Q => te σ H fun v H1 => ∃ m, v = .str m ∧ Q (.str m) H1) := by
  refine ⟨fun pins s σ H Q I h => ?_⟩
  refine Call_ (ld_blt I hg2 hm2 (u := .type "str") (by decide +kernel) ?_)
  refine PyProof.Rows.callWith_type1 (PyProof.Rows.args_cons ?_ na) na rfl
  refine wpAny_Call_Name_kw (ld_glob I hg T.g ?_ hdb)
  refine PySem.W.callWith_K (h₀ := X.base) I.ok.mod.kin T.k ?_ hs (by rfl)
  rw [hs]
  show wpAny _ _ (spliced ((false, eval e X.env) :: backTo q2 (starEach [] X.env))) _ _ s
  refine Calls.spliced_cons (thn (he.run pins s σ H _ I h) fun u s1 ⟨v, H1, I1, r1, m, em, q1⟩ => ?_)
  subst em
  obtain ⟨tk, rfl⟩ := (show ∃ t, u = Value.str m t from r1)
  refine Calls.spliced_nil ⟨I1.kIn, ?_⟩
  show wpAny _ _ (call (.ref C) [Value.str m tk]) _ _ _
  obtain ⟨bm, N, nm, qn, bs, hdct, sn, sub, ab, col, dd, k0, k1, k2, k3, k5, mN, hC, hN, hni, T'⟩ := exc_obj I1.kIn q
  refine wpAny_call_exc_subT PySem.F.excBase_ValueError T' hC hN hni (fun h' a hm => ?_) (by show 1 ≤ sizeLine; rw [sizeLine_eq]; omega)
  obtain ⟨t, ht, _, ht2⟩ := hm.there
  refine PyProof.Rows.args_nil ?_
  have I2 : Inv X pins σ H1 { s1 with heap := h' } := I1.kept (t' := s1.toks) hm.keeps
  exact PySem.P.str_of_C_one (by omega) ⟨I2.kIn, _, _, ht, rfl, rfl, rfl⟩ ⟨_, _, ht2, rfl, rfl⟩ hst T.b ⟨.str m, H1, I2, ⟨tk, rfl⟩, q1⟩
theorem se_strX {x : Str} {C : Addr} {e : Expr} {pe : XE} {p p2 q2 : Pos} (hu : X.A.units + 65 < cLine) (T : ExcT X.K X.mg x C) (q : PySem.W.excIn X.K C [.type "ValueError", .type "Exception", .type "BaseException", .type "object"] "ValueError.__new__" = true)
    (hst : PySem.W.findIn X.K (.ref C) "__str__" = some (some (.builtin "BaseException.__str__"))) (hg : Gl X x) (hg2 : Gl X "str") (hm2 : X.mg "str" = none) (he : SE X W e pe)
    (hs : starEach [e] X.env = (false, eval e X.env) :: starEach [] X.env := by rfl) (hdb : (x == ("__debug__" : Str)) = false := by decide)
    (na : starEach [.Call (.Name x p) [e] [] q2] X.env = (false, eval (.Call (.Name x p) [e] [] q2) X.env) :: starEach [] X.env := by rfl) :
    SE X W (.Call (.Name "str" p2) [.Call (.Name x p) [e] [] q2] [] pos) (eStrX pe) := by
  refine PE.imp (pe_strX hu T q hst hg hg2 hm2 he hs hdb na) fun σ H Q ⟨B, e, Z, R0, hq⟩ => ?_
  refine rg_bind R0 hq fun v1 Z1 e1 d1 H1 s1 R1 D1 h1 => ?_
  cases D1 with
  | str y => exact ⟨y, rfl, h1 _ Z1 H1 (Same.refl _) R1 (.str y)⟩
  | non => exact h1.elim
  | bl _ => exact h1.elim
  | int _ => exact h1.elim
  | lst _ _ => exact h1.elim
  | tup _ _ => exact h1.elim
end
end G
set_option Elab.async false
set_option linter.all false
set_option maxRecDepth 100000
/-! xs + ys as a new list -/
namespace G
open PySem PySem.Spec PyProof.Rows L2
section
variable {X : Cx} {W : WX} {pos : Pos}
def nAddL (p q : XE) : XI := fun e => (p e).bind fun a e1 => (q e1).bind fun b e2 => match a, b with
  | .list xs, .list ys => if xs.length + ys.length ≤ sizeLine then .ok (xs ++ ys) e2 else .bad
  | _, _ => .bad
theorem sn_addL {a b : Expr} {p q : XE} (ha : SE X W a p) (hb : SE X W b q) : SN X W (.BinOp a .Add b pos) (nAddL p q) := by
  refine PE.imp (pe_op op_cat ha hb) fun σ H Q ⟨B, e, Z, R0, hq⟩ => ?_
  refine rn_bind R0 hq fun v1 Z1 e1 d1 H1 s1 R1 D1 h1 => ?_
  refine rn_bind R1 h1 fun v2 Z2 e2 d2 H2 s2 R2 D2 h2 => ?_
  split at h2
  · split at h2
    · rename_i hc
      obtain ⟨a, ws, rfl, g1, g2⟩ := dp_list (dp_mono s2 D1)
      obtain ⟨b, us, rfl, g3, g4⟩ := dp_list D2
      exact ⟨a, b, ws, us, rfl, rfl, R2.sub _ _ g1, R2.sub _ _ g3, by rw [dpa_len g2, dpa_len g4]; exact hc, pgf_new R2 (dpa_app g2 g4) h2⟩
    · exact h2.elim
  · exact h2.elim
end
end G
set_option Elab.async false
set_option linter.all false
set_option maxRecDepth 100000
namespace G
open PySem PySem.Spec PyProof.Rows L2
/-! ### what holds behind a piece of code: one rule for each reading -/
inductive Wp {α : Type} (r : R α) (Q : α → En → Prop) (X : Xn → En → Prop) : Prop
  | ok {a : α} {e : En} (h : r = .ok a e) (q : Q a e) : Wp r Q X
  | ex {x : Xn} {e : En} (h : r = .ex x e) (q : X x e) : Wp r Q X
inductive WpO {α : Type} (o : Option α) (Q : α → Prop) : Prop
  | mk {d : α} (h : o = some d) (q : Q d) : WpO o Q
abbrev NX : Xn → En → Prop := fun _ _ => False
section
variable {α β : Type} {e e0 e1 e2 e3 : En} {a b d d1 d2 c : D} {ds ls acc xs ys : List D} {p q : XE} {qa : XA} {pi : XI} {X : Xn → En → Prop}
theorem wp_eq {r : R α} {a : α} {Q : α → En → Prop} (h : r = .ok a e) (q : Q a e) : Wp r Q X := .ok h q
theorem wp_k {a : α} {Q : α → En → Prop} (q : Q a e) : Wp (.ok a e) Q X := .ok rfl q
theorem wp_kOf {a : α} {Q : α → En → Prop} (h : Wp (.ok a e) Q X) : Q a e := by
  cases h with
  | ok h q => cases h; exact q
  | ex h q => cases h
theorem wp_bind {r : R α} {k : α → En → R β} {Q : β → En → Prop} (h : Wp r (fun a e => Wp (k a e) Q X) X) : Wp (r.bind k) Q X := by
  cases h with
  | ok h q => subst h; exact q
  | ex h q => subst h; exact .ex rfl q
theorem wp_mid {r : R α} {Q Q' : α → En → Prop} (h : Wp r Q' X) (f : ∀ a e, Q' a e → Q a e) : Wp r Q X := by
  cases h with
  | ok h q => exact .ok h (f _ _ q)
  | ex h q => exact .ex h q
theorem wp_out {r : R α} {Q : α → En → Prop} (h : Wp r Q NX) : ∃ a e, r = .ok a e ∧ Q a e := by
  cases h with
  | ok h q => exact ⟨_, _, h, q⟩
  | ex h q => exact q.elim
theorem wp_noex {r : R α} {Q : α → En → Prop} (h : Wp r Q NX) : Wp r.noex Q X := by
  cases h with
  | ok h q => subst h; exact .ok rfl q
  | ex h q => exact q.elim
theorem wpo {o : Option α} {d : α} {Q : α → Prop} (h : o = some d) (q : Q d) : WpO o Q := .mk h q
theorem wpo_out {o : Option α} {Q : α → Prop} (h : WpO o Q) : ∃ d, o = some d ∧ Q d := by
  cases h with
  | mk h q => exact ⟨_, h, q⟩
theorem wp_lift {o : Option α} {Q : α → En → Prop} (h : WpO o fun a => Q a e) : Wp (R.lift o e) Q X := by
  cases h with
  | mk h q => subst h; exact .ok rfl q
theorem wp_map {r : R α} {f : α → En → β} {g : α → En → En} {Q : β → En → Prop} (h : Wp r (fun a e => Q (f a e) (g a e)) X) : Wp (r.bind fun a e => .ok (f a e) (g a e)) Q X :=
  wp_bind (wp_mid h fun _ _ h => .ok rfl h)
section
variable {Q : D → En → Prop}
theorem w_var {i : Nat} (h : e[i]? = some (.dat d)) (k : Q d e) : Wp (eVar i e) Q X := wp_eq (st_var h) k
theorem w_varO {i : Nat} {t : Option Nat} (h : e[i]? = some (.own t (.lst ds))) (k : Q (.list ds) (e.set i (.dat (.list ds)))) : Wp (eVar i e) Q X := wp_eq (st_varO h) k
theorem w_c (k : Q d e) : Wp (eC d e) Q X := wp_eq rfl k
theorem w_op {g : D → D → Option D} (h : Wp (p e) (fun a e1 => Wp (q e1) (fun b e2 => WpO (g a b) fun d => Q d e2) X) X) : Wp (eOp g p q e) Q X :=
  wp_bind (wp_mid h fun _ _ h => wp_bind (wp_mid h fun _ _ h => wp_lift h))
theorem w_and (h : Wp (p e) (fun d e1 => ∃ b, d = .bool b ∧ (b = true → Wp (q e1) Q X) ∧ (b = false → Q (.bool false) e1)) X) : Wp (eAnd p q e) Q X := by
  refine wp_bind (wp_mid h fun d e1 ⟨b, hd, h1, h2⟩ => ?_)
  subst hd
  cases b
  · first | exact h2 rfl | exact wp_eq rfl (h2 rfl) | exact wpo rfl (h2 rfl)
  · first | exact h1 rfl | exact wp_eq rfl (h1 rfl) | exact wpo rfl (h1 rfl)
theorem w_or (h : Wp (p e) (fun d e1 => ∃ b, d = .bool b ∧ (b = true → Q (.bool true) e1) ∧ (b = false → Wp (q e1) Q X)) X) : Wp (eOr p q e) Q X := by
  refine wp_bind (wp_mid h fun d e1 ⟨b, hd, h1, h2⟩ => ?_)
  subst hd
  cases b
  · first | exact h2 rfl | exact wp_eq rfl (h2 rfl) | exact wpo rfl (h2 rfl)
  · first | exact h1 rfl | exact wp_eq rfl (h1 rfl) | exact wpo rfl (h1 rfl)
theorem w_not (h : Wp (p e) (fun d e1 => ∃ b, d = .bool b ∧ Q (.bool (!b)) e1) X) : Wp (eNot p e) Q X := by
  refine wp_bind (wp_mid h fun d e1 ⟨b, hd, h1⟩ => ?_)
  subst hd
  first | exact h1 | exact wp_eq rfl (h1) | exact wpo rfl (h1)
theorem w_if {t : XT} (h : Wp (t e) (fun b e1 => (b = true → Wp (p e1) Q X) ∧ (b = false → Wp (q e1) Q X)) X) : Wp (eIf t p q e) Q X := by
  refine wp_bind (wp_mid h fun b e1 ⟨h1, h2⟩ => ?_)
  cases b
  · first | exact h2 rfl | exact wp_eq rfl (h2 rfl) | exact wpo rfl (h2 rfl)
  · first | exact h1 rfl | exact wp_eq rfl (h1 rfl) | exact wpo rfl (h1 rfl)
theorem w_isN (h : Wp (p e) (fun d e1 => Q (.bool (dIsN d)) e1) X) : Wp (eIsN p e) Q X := wp_map h
theorem w_notN (h : Wp (p e) (fun d e1 => Q (.bool (!dIsN d)) e1) X) : Wp (eNotN p e) Q X := wp_map h
theorem w_call {g : List D → Option D} (h : Wp (qa e) (fun ds e1 => WpO (g ds) fun d => Q d e1) X) : Wp (eCall g qa e) Q X := wp_bind (wp_mid h fun _ _ h => wp_lift h)
theorem w_meth {ty : D → Bool} {g : D → List D → Option D} (h : Wp (p e) (fun c e1 => ty c = true ∧ Wp (qa e1) (fun ds e2 => WpO (g c ds) fun d => Q d e2) X) X) : Wp (eMeth ty g p qa e) Q X := by
  refine wp_bind (wp_mid h fun c e1 ⟨h1, h2⟩ => ?_)
  rw [if_pos h1]
  exact wp_bind (wp_mid h2 fun _ _ h => wp_lift h)
theorem w_new (h : Wp (pi e) (fun ds e1 => Q (.list ds) e1) X) : Wp (eNew pi e) Q X := wp_map h
theorem w_isi {T : String} (h : Wp (p e) (fun d e1 => WpO (kitB (tyN d) T) fun b => Q (.bool b) e1) X) : Wp (eIsi T p e) Q X := by
  refine wp_bind (wp_mid h fun d e1 h => wp_lift ?_)
  obtain ⟨b, hb, k⟩ := wpo_out h
  rw [hb]
  first | exact k | exact wp_eq rfl (k) | exact wpo rfl (k)
theorem w_bits (h : Wp (p e) (fun d e1 => ∃ i, d = .int i ∧ Q (.int (Builtin.Int.intBits i : Nat)) e1) X) : Wp (eBits p e) Q X := by
  refine wp_bind (wp_mid h fun d e1 ⟨i, hd, k⟩ => ?_)
  subst hd
  first | exact k | exact wp_eq rfl (k) | exact wpo rfl (k)
theorem w_rev (h : Wp (p e) (fun d e1 => ∃ xs, d = .list xs ∧ Q (.list xs.reverse) e1) X) : Wp (eRev p e) Q X := by
  refine wp_bind (wp_mid h fun d e1 ⟨i, hd, k⟩ => ?_)
  subst hd
  first | exact k | exact wp_eq rfl (k) | exact wpo rfl (k)
theorem w_ixOwn {i : Nat} {t : Option Nat} (h0 : e[i]? = some (.own t (.lst xs))) (h : Wp (q e) (fun d e1 => ∃ u ys, e1[i]? = some (.own u (.lst ys)) ∧ WpO (dIx (.list ys) d) fun d => Q d e1) X) : Wp (eIxOwn i q e) Q X := by
  unfold eIxOwn
  rw [h0]
  refine wp_bind (wp_mid h fun d e1 ⟨u, ys, h1, h2⟩ => ?_)
  rw [h1]
  exact wp_lift h2
theorem w_lenOwn {i : Nat} {t : Option Nat} (h0 : e[i]? = some (.own t (.lst xs))) (k : Q (.int (xs.length : Nat)) e) : Wp (eLenOwn i e) Q X := wp_eq (st_lenOwn h0) k
theorem w_mut {i : Nat} {g : List D → List D → Option (D × List D)} {t : Option Nat} (h0 : e[i]? = some (.own t (.lst xs))) (h : Wp (qa e) (fun as e1 => ∃ u ys, e1[i]? = some (.own u (.lst ys)) ∧ WpO (g ys as) fun r => Q r.1 (e1.set i (.own u (.lst r.2)))) X) : Wp (eMut i g qa e) Q X := by
  unfold eMut
  rw [h0]
  refine wp_bind (wp_mid h fun as e1 ⟨u, ys, h1, h2⟩ => ?_)
  obtain ⟨⟨x, zs⟩, h3, h4⟩ := wpo_out h2
  rw [h1]
  show Wp (match g ys as with
    | some (d, ys) => .ok d (e1.set i (.own u (.lst ys)))
    | none => .bad) Q X
  rw [h3]
  first | exact h4 | exact wp_eq rfl (h4) | exact wpo rfl (h4)
theorem w_sl {g : D → Option Int → Option Int → Option D} {l u : XO} (h : Wp (p e) (fun c e1 => Wp (l e1) (fun lo e2 => Wp (u e2) (fun hi e3 => WpO (g c lo hi) fun d => Q d e3) X) X) X) : Wp (eSl g p l u e) Q X :=
  wp_bind (wp_mid h fun _ _ h => wp_bind (wp_mid h fun _ _ h => wp_bind (wp_mid h fun _ _ h => wp_lift h)))
end
section
variable {Q : Option Int → En → Prop}
theorem w_oN (k : Q none e) : Wp (oNone e) Q X := wp_eq rfl k
theorem w_oS (h : Wp (p e) (fun d e1 => ∃ i, d = .int i ∧ Q (some i) e1) X) : Wp (oSome p e) Q X := by
  refine wp_bind (wp_mid h fun d e1 ⟨i, hd, k⟩ => ?_)
  subst hd
  first | exact k | exact wp_eq rfl (k) | exact wpo rfl (k)
end
section
variable {Q : Bool → En → Prop}
theorem t_of (h : Wp (p e) (fun d e1 => ∃ b, d = .bool b ∧ Q b e1) X) : Wp (tOf p e) Q X := by
  refine wp_bind (wp_mid h fun d e1 ⟨b, hd, k⟩ => ?_)
  subst hd
  first | exact k | exact wp_eq rfl (k) | exact wpo rfl (k)
theorem t_tru (h : Wp (p e) (fun d e1 => WpO (dTru d) fun b => Q b e1) X) : Wp (tTru p e) Q X := wp_bind (wp_mid h fun _ _ h => wp_lift h)
theorem t_and {t u : XT} (h : Wp (t e) (fun b e1 => (b = true → Wp (u e1) Q X) ∧ (b = false → Q false e1)) X) : Wp (tAnd t u e) Q X := by
  refine wp_bind (wp_mid h fun b e1 ⟨h1, h2⟩ => ?_)
  cases b
  · first | exact h2 rfl | exact wp_eq rfl (h2 rfl) | exact wpo rfl (h2 rfl)
  · first | exact h1 rfl | exact wp_eq rfl (h1 rfl) | exact wpo rfl (h1 rfl)
theorem t_or {t u : XT} (h : Wp (t e) (fun b e1 => (b = true → Q true e1) ∧ (b = false → Wp (u e1) Q X)) X) : Wp (tOr t u e) Q X := by
  refine wp_bind (wp_mid h fun b e1 ⟨h1, h2⟩ => ?_)
  cases b
  · first | exact h2 rfl | exact wp_eq rfl (h2 rfl) | exact wpo rfl (h2 rfl)
  · first | exact h1 rfl | exact wp_eq rfl (h1 rfl) | exact wpo rfl (h1 rfl)
theorem t_not {t : XT} (h : Wp (t e) (fun b e1 => Q (!b) e1) X) : Wp (tNot t e) Q X := wp_map h
theorem t_yes (k : Q true e) : Wp ((fun e => R.ok true e : XT) e) Q X := wp_eq rfl k
end
section
variable {Q : List D → En → Prop}
theorem a_nil (k : Q [] e) : Wp (aNil e) Q X := wp_eq rfl k
theorem a_cons (h : Wp (p e) (fun d e1 => Wp (qa e1) (fun ds e2 => Q (d :: ds) e2) X) X) : Wp (aCons p qa e) Q X := wp_bind (wp_mid h fun _ _ h => wp_map h)
theorem i_of (h : Wp (p e) (fun d e1 => WpO (iD d) fun ds => Q ds e1) X) : Wp (iOf p e) Q X := wp_bind (wp_mid h fun _ _ h => wp_lift h)
theorem i_args {g : List D → Option (List D)} (h : Wp (qa e) (fun ds e1 => WpO (g ds) fun ds => Q ds e1) X) : Wp (iArgs g qa e) Q X := wp_bind (wp_mid h fun _ _ h => wp_lift h)
theorem n_lst (h : Wp (qa e) (fun ds e1 => ds.length ≤ sizeLine ∧ Q ds e1) X) : Wp (nLst qa e) Q X := by
  refine wp_bind (wp_mid h fun d e1 ⟨h1, h2⟩ => ?_)
  rw [if_pos h1]
  first | exact h2 | exact wp_eq rfl (h2) | exact wpo rfl (h2)
theorem n_take {i : Nat} (h : e[i]? = some (.own none (.lst ds))) (k : Q ds (e.set i .un)) : Wp (nTake i e) Q X := wp_eq (nl_take h) k
theorem n_call {g : List D → Option (List D)} (h : Wp (qa e) (fun ds e1 => WpO (g ds) fun ds => Q ds e1) X) : Wp (nCall g qa e) Q X := wp_bind (wp_mid h fun _ _ h => wp_lift h)
theorem n_rg1 (h : Wp (p e) (fun d e1 => ∃ n, d = .int n ∧ (0 ≤ n ∧ n ≤ 16777216) ∧ Q (rgD 0 n) e1) X) : Wp (nRange1 p e) Q X := by
  refine wp_bind (wp_mid h fun d e1 ⟨n, hd, h1, h2⟩ => ?_)
  subst hd
  show Wp (if 0 ≤ n ∧ n ≤ 16777216 then _ else _) Q X
  rw [if_pos h1]
  first | exact h2 | exact wp_eq rfl (h2) | exact wpo rfl (h2)
theorem n_slScr {i : Nat} {l u : XO} (h0 : e[i]? = some (.scr xs)) (h : Wp (l e) (fun lo e1 => Wp (u e1) (fun hi e2 => Q (cutD xs lo hi) e2) X) X) : Wp (nSlScr i l u e) Q X := by
  unfold nSlScr
  rw [h0]
  exact wp_bind (wp_mid h fun _ _ h => wp_map h)
theorem n_rep (h : Wp (p e) (fun x e1 => Wp (q e1) (fun y e2 => ∃ xs k, x = .list xs ∧ y = .int k ∧ ((-(2 ^ 63) ≤ k ∧ k < 2 ^ 63) ∧ xs.length * k.toNat ≤ sizeLine) ∧ Q (List.replicate k.toNat xs).flatten e2) X) X) : Wp (nRep p q e) Q X := by
  refine wp_bind (wp_mid h fun x e1 h => wp_bind (wp_mid h fun y e2 ⟨xs, k, h1, h2, h3, h4⟩ => ?_))
  subst h1
  subst h2
  show Wp (if _ then _ else _) Q X
  rw [if_pos h3]
  first | exact h4 | exact wp_eq rfl (h4) | exact wpo rfl (h4)
theorem n_lc {t : XG} {c : XT} {x : XE} {vs : List Nat} (h : Wp (pi e) (fun ds e1 => ds.length < sizeLine ∧ Wp (lcGo t c x vs ds (wipeE e1 vs) []) (fun acc e2 => Q acc (back e1 e2 vs)) X) X) : Wp (nLc pi t c x vs e) Q X := by
  refine wp_bind (wp_mid h fun d e1 ⟨h1, h2⟩ => ?_)
  rw [if_pos h1]
  exact wp_map h2
theorem n_lc2 {t : XG} {c : XT} {pi1 : XI} {t1 : XG} {c1 : XT} {x : XE} {vs vs1 : List Nat} (h : Wp (pi e) (fun ds e1 => Wp (lc2Go t c pi1 t1 c1 x vs vs1 ds (wipeE e1 vs) []) (fun acc e2 => Q acc (back e1 e2 vs)) X) X) : Wp (nLc2 pi t c pi1 t1 c1 x vs vs1 e) Q X :=
  wp_bind (wp_mid h fun d e1 h => wp_map h)
end
/-! ### a comprehension's turns -/
theorem app_cons {γ : Type} (a : List γ) (x : γ) (b : List γ) : a ++ x :: b = (a ++ [x]) ++ b := by simp
theorem l_goA {γ : Type} {t : XG} {c : XT} {x : XE} {vs : List Nat} {f : γ → D} {all : List γ} (I : List γ → En → List D → Prop) {Q : List D → En → Prop}
    (hs : ∀ done a rest e acc, all = done ++ a :: rest → I done e acc → ∃ e1, t (f a) e = some e1 ∧ Wp (c e1) (fun b e2 => (b = true → Wp (x e2) (fun y e3 => I (done ++ [a]) (wipeE e3 vs) (acc ++ [y])) NX) ∧ (b = false → I (done ++ [a]) (wipeE e2 vs) acc)) NX)
    (hd : ∀ e acc, I all e acc → Q acc e) : ∀ (rest done : List γ) (e : En) (acc : List D), all = done ++ rest → I done e acc → Wp (lcGo t c x vs (rest.map f) e acc) Q X
  | [], done, e, acc, ha, h => wp_eq rfl (hd e acc (by rw [ha, List.append_nil]; exact h))
  | a :: rest, done, e, acc, ha, h => by
    obtain ⟨e1, h1, h2⟩ := hs done a rest e acc ha h
    show Wp (match t (f a) e with
      | none => .bad
      | some e1 => (c e1).noex.bind fun b e2 => if b = true then (x e2).noex.bind fun y e3 => lcGo t c x vs (rest.map f) (wipeE e3 vs) (acc ++ [y]) else lcGo t c x vs (rest.map f) (wipeE e2 vs) acc) Q X
    rw [h1]
    refine wp_bind (wp_noex (wp_mid h2 fun b e2 ⟨k1, k2⟩ => ?_))
    cases b
    · exact l_goA I hs hd rest (done ++ [a]) _ _ (by rw [ha, app_cons]) (k2 rfl)
    · exact wp_bind (wp_noex (wp_mid (k1 rfl) fun y e3 k => l_goA I hs hd rest (done ++ [a]) _ _ (by rw [ha, app_cons]) k))
/-- by an invariant: what was gone through, the slots, what is made so far -/
theorem l_go {γ : Type} {t : XG} {c : XT} {x : XE} {vs : List Nat} {f : γ → D} {all : List γ} (I : List γ → En → List D → Prop) {Q : List D → En → Prop} (h0 : I [] e acc)
    (hs : ∀ done a rest e acc, all = done ++ a :: rest → I done e acc → ∃ e1, t (f a) e = some e1 ∧ Wp (c e1) (fun b e2 => (b = true → Wp (x e2) (fun y e3 => I (done ++ [a]) (wipeE e3 vs) (acc ++ [y])) NX) ∧ (b = false → I (done ++ [a]) (wipeE e2 vs) acc)) NX)
    (hd : ∀ e acc, I all e acc → Q acc e) : Wp (lcGo t c x vs (all.map f) e acc) Q X := l_goA I hs hd all [] e acc rfl h0
/-- one that changes nothing: a filter and a map -/
theorem l_pure {γ : Type} {t : XG} {c : XT} {x : XE} {vs : List Nat} {f : γ → D} {all : List γ} (cb : γ → Bool) (y : γ → D) {Q : List D → En → Prop}
    (hs : ∀ a ∈ all, ∃ e1, t (f a) e = some e1 ∧ Wp (c e1) (fun b e2 => b = cb a ∧ (b = true → Wp (x e2) (fun z e3 => z = y a ∧ wipeE e3 vs = e) NX) ∧ (b = false → wipeE e2 vs = e)) NX)
    (hd : Q (acc ++ (all.filter cb).map y) e) : Wp (lcGo t c x vs (all.map f) e acc) Q X := by
  refine l_go (fun done e' acc' => e' = e ∧ acc' = acc ++ (done.filter cb).map y) ⟨rfl, by simp⟩ (fun done a rest e' acc' ha ⟨h1, h2⟩ => ?_) (fun e' acc' ⟨h1, h2⟩ => by rw [h1, h2]; exact hd)
  subst h1
  obtain ⟨e1, k1, k2⟩ := hs a (by rw [ha]; simp)
  refine ⟨e1, k1, wp_mid k2 fun b e2 ⟨g1, g2, g3⟩ => ⟨fun hb => wp_mid (g2 hb) fun z e3 ⟨m1, m2⟩ => ⟨m2, ?_⟩, fun hb => ⟨g3 hb, ?_⟩⟩⟩
  · rw [h2, m1, List.filter_append, List.map_append, ← List.append_assoc, List.filter_cons, if_pos (by rw [← g1, hb])]; rfl
  · rw [h2, List.filter_append, List.map_append, List.filter_cons, if_neg (by rw [← g1, hb]; decide)]; simp
/-- without a test -/
theorem l_map {γ : Type} {t : XG} {x : XE} {vs : List Nat} {f : γ → D} {all : List γ} (y : γ → D) {Q : List D → En → Prop}
    (hs : ∀ a ∈ all, ∃ e1, t (f a) e = some e1 ∧ Wp (x e1) (fun z e3 => z = y a ∧ wipeE e3 vs = e) NX)
    (hd : Q (acc ++ all.map y) e) : Wp (lcGo t (fun e => R.ok true e) x vs (all.map f) e acc) Q X := by
  refine l_pure (fun _ => true) y (fun a ha => ?_) (by rw [List.filter_eq_self.mpr fun _ _ => rfl]; exact hd)
  obtain ⟨e1, k1, k2⟩ := hs a ha
  exact ⟨e1, k1, wp_eq rfl ⟨rfl, fun _ => k2, fun z => nomatch z⟩⟩
theorem l_go2A {γ : Type} {t : XG} {c : XT} {pi1 : XI} {t1 : XG} {c1 : XT} {x : XE} {vs vs1 : List Nat} {f : γ → D} {all : List γ} (I : List γ → En → List D → Prop) {Q : List D → En → Prop}
    (hs : ∀ done a rest e acc, all = done ++ a :: rest → I done e acc → ∃ e1, t (f a) e = some e1 ∧ Wp (c e1) (fun b e2 => (b = true → Wp (pi1 e2) (fun ds1 e3 => acc.length + ds1.length < sizeLine ∧ Wp (lcGo t1 c1 x vs1 ds1 (wipeE e3 vs1) acc) (fun acc' e4 => I (done ++ [a]) (wipeE e4 vs) acc') NX) NX) ∧ (b = false → I (done ++ [a]) (wipeE e2 vs) acc)) NX)
    (hd : ∀ e acc, I all e acc → Q acc e) : ∀ (rest done : List γ) (e : En) (acc : List D), all = done ++ rest → I done e acc → Wp (lc2Go t c pi1 t1 c1 x vs vs1 (rest.map f) e acc) Q X
  | [], done, e, acc, ha, h => wp_eq rfl (hd e acc (by rw [ha, List.append_nil]; exact h))
  | a :: rest, done, e, acc, ha, h => by
    obtain ⟨e1, h1, h2⟩ := hs done a rest e acc ha h
    rw [List.map_cons]
    unfold lc2Go
    rw [h1]
    refine wp_bind (wp_noex (wp_mid h2 fun b e2 ⟨k1, k2⟩ => ?_))
    cases b
    · exact l_go2A I hs hd rest (done ++ [a]) _ _ (by rw [ha, app_cons]) (k2 rfl)
    · refine wp_bind (wp_noex (wp_mid (k1 rfl) fun ds1 e3 ⟨k3, k4⟩ => ?_))
      rw [if_pos k3]
      obtain ⟨acc', e4, m1, m2⟩ := wp_out k4
      rw [m1]
      exact l_go2A I hs hd rest (done ++ [a]) _ _ (by rw [ha, app_cons]) m2
theorem l_go2 {γ : Type} {t : XG} {c : XT} {pi1 : XI} {t1 : XG} {c1 : XT} {x : XE} {vs vs1 : List Nat} {f : γ → D} {all : List γ} (I : List γ → En → List D → Prop) {Q : List D → En → Prop} (h0 : I [] e acc)
    (hs : ∀ done a rest e acc, all = done ++ a :: rest → I done e acc → ∃ e1, t (f a) e = some e1 ∧ Wp (c e1) (fun b e2 => (b = true → Wp (pi1 e2) (fun ds1 e3 => acc.length + ds1.length < sizeLine ∧ Wp (lcGo t1 c1 x vs1 ds1 (wipeE e3 vs1) acc) (fun acc' e4 => I (done ++ [a]) (wipeE e4 vs) acc') NX) NX) ∧ (b = false → I (done ++ [a]) (wipeE e2 vs) acc)) NX)
    (hd : ∀ e acc, I all e acc → Q acc e) : Wp (lc2Go t c pi1 t1 c1 x vs vs1 (all.map f) e acc) Q X := l_go2A I hs hd all [] e acc rfl h0
/-! ### statements -/
section
variable {Q : Fl → En → Prop}
def thn (s : XS) (Q : Fl → En → Prop) (X : Xn → En → Prop) : Fl → En → Prop
  | .nx, e => Wp (s e) Q X
  | f, e => Q f e
theorem thn_nx {s : XS} (h : Wp (s e) Q X) : thn s Q X .nx e := h
theorem thn_rt {s : XS} (h : Q (.rt d) e) : thn s Q X (.rt d) e := h
theorem thn_rn {s : XS} (h : Q (.rn ds) e) : thn s Q X (.rn ds) e := h
theorem thn_bk {s : XS} (h : Q .bk e) : thn s Q X .bk e := h
theorem thn_ct {s : XS} (h : Q .ct e) : thn s Q X .ct e := h
theorem s_seq {s1 s2 : XS} (h : Wp (s1 e) (thn s2 Q X) X) : Wp (sSeq s1 s2 e) Q X := by
  unfold sSeq
  refine wp_bind (wp_mid h fun f e1 k => ?_)
  cases f <;> first | exact k | exact wp_eq rfl k
theorem s_nx (k : Q .nx e) : Wp (sNx e) Q X := wp_eq rfl k
theorem s_bk (k : Q .bk e) : Wp ((fun e => R.ok Fl.bk e : XS) e) Q X := wp_eq rfl k
theorem s_ct (k : Q .ct e) : Wp ((fun e => R.ok Fl.ct e : XS) e) Q X := wp_eq rfl k
theorem s_retN (k : Q (.rt .none) e) : Wp ((fun e => R.ok (Fl.rt .none) e : XS) e) Q X := wp_eq rfl k
theorem s_expr (h : Wp (p e) (fun _ e1 => Q .nx e1) X) : Wp (sExpr p e) Q X := wp_map h
theorem s_ret (h : Wp (p e) (fun d e1 => Q (.rt d) e1) X) : Wp (sRet p e) Q X := wp_map h
theorem s_retW (h : Wp (pi e) (fun d e1 => Q (.rn d) e1) X) : Wp (sRetN pi e) Q X := wp_map h
theorem s_if {t : XT} {s1 s2 : XS} (h : Wp (t e) (fun b e1 => (b = true → Wp (s1 e1) Q X) ∧ (b = false → Wp (s2 e1) Q X)) X) : Wp (sIf t s1 s2 e) Q X := by
  refine wp_bind (wp_mid h fun b e1 ⟨h1, h2⟩ => ?_)
  cases b
  · first | exact h2 rfl | exact wp_eq rfl (h2 rfl) | exact wpo rfl (h2 rfl)
  · first | exact h1 rfl | exact wp_eq rfl (h1 rfl) | exact wpo rfl (h1 rfl)
theorem s_set {i : Nat} (h : Wp (p e) (fun d e1 => Q .nx (e1.set i (.dat d))) X) : Wp (sSet i p e) Q X := wp_map h
theorem s_own {i : Nat} (h : Wp (pi e) (fun ds e1 => Q .nx (e1.set i (.own none (.lst ds)))) X) : Wp (sOwn i pi e) Q X := wp_map h
theorem s_asg {t : XG} (h : Wp (p e) (fun d e1 => ∃ e2, t d e1 = some e2 ∧ Q .nx e2) X) : Wp (sAsg t p e) Q X := by
  refine wp_bind (wp_mid h fun d e1 ⟨e2, h1, h2⟩ => ?_)
  rw [h1]
  first | exact h2 | exact wp_eq rfl (h2) | exact wpo rfl (h2)
theorem s_setIx {i : Nat} (h : Wp (p e) (fun d e1 => (∃ t xs, e1[i]? = some (.own t (.lst xs))) ∧ Wp (q e1) (fun k e2 => ∃ t xs n j, e2[i]? = some (.own t (.lst xs)) ∧ k = .int n ∧ ixN xs.length n = some j ∧ Q .nx (e2.set i (.own t (.lst (xs.set j d))))) X) X) : Wp (sSetIx i q p e) Q X := by
  refine wp_bind (wp_mid h fun d e1 ⟨⟨t, xs, h1⟩, h2⟩ => ?_)
  rw [h1]
  refine wp_bind (wp_mid h2 fun k e2 ⟨t, xs, n, j, g1, g2, g3, g4⟩ => ?_)
  subst g2
  rw [g1]
  show Wp (match ixN xs.length n with
    | some j => .ok .nx (e2.set i (.own t (.lst (xs.set j d))))
    | none => .bad) Q X
  rw [g3]
  first | exact g4 | exact wp_eq rfl (g4) | exact wpo rfl (g4)
theorem s_for {t : XG} {b : XS} (h : Wp (pi e) (fun ds e1 => Wp (forD t b ds e1) Q X) X) : Wp (sFor pi t b e) Q X := wp_bind h
def lpk (I : En → Prop) (Q : Fl → En → Prop) : Fl → En → Prop
  | .nx, e => I e
  | .ct, e => I e
  | .bk, e => Q .nx e
  | .rt d, e => Q (.rt d) e
  | .rn ds, e => Q (.rn ds) e
theorem lpk_nx {I : En → Prop} (h : I e) : lpk I Q .nx e := h
theorem lpk_ct {I : En → Prop} (h : I e) : lpk I Q .ct e := h
theorem lpk_bk {I : En → Prop} (h : Q .nx e) : lpk I Q .bk e := h
theorem lpk_rt {I : En → Prop} (h : Q (.rt d) e) : lpk I Q (.rt d) e := h
theorem lpk_rn {I : En → Prop} (h : Q (.rn ds) e) : lpk I Q (.rn ds) e := h
theorem f_goA {γ : Type} {t : XG} {b : XS} {f : γ → D} {all : List γ} (I : List γ → En → Prop)
    (hs : ∀ done a rest e, all = done ++ a :: rest → I done e → ∃ e1, t (f a) e = some e1 ∧ Wp (b e1) (lpk (I (done ++ [a])) Q) X)
    (hd : ∀ e, I all e → Q .nx e) : ∀ (rest done : List γ) (e : En), all = done ++ rest → I done e → Wp (forD t b (rest.map f) e) Q X
  | [], done, e, ha, h => wp_eq rfl (hd e (by rw [ha, List.append_nil]; exact h))
  | a :: rest, done, e, ha, h => by
    obtain ⟨e1, h1, h2⟩ := hs done a rest e ha h
    rw [List.map_cons]
    unfold forD
    rw [h1]
    refine wp_bind (wp_mid h2 fun fl e2 k => ?_)
    cases fl with
    | nx => exact f_goA I hs hd rest (done ++ [a]) e2 (by rw [ha, app_cons]) k
    | ct => exact f_goA I hs hd rest (done ++ [a]) e2 (by rw [ha, app_cons]) k
    | bk => exact wp_eq rfl k
    | rt d => exact wp_eq rfl k
    | rn d => exact wp_eq rfl k
/-- a loop by an invariant: what was gone through, the slots -/
theorem f_go {γ : Type} {t : XG} {b : XS} {f : γ → D} {all : List γ} (I : List γ → En → Prop) (h0 : I [] e)
    (hs : ∀ done a rest e, all = done ++ a :: rest → I done e → ∃ e1, t (f a) e = some e1 ∧ Wp (b e1) (lpk (I (done ++ [a])) Q) X)
    (hd : ∀ e, I all e → Q .nx e) : Wp (forD t b (all.map f) e) Q X := f_goA I hs hd all [] e rfl h0
end
/-! ### calls -/
section
variable {Q : List Ar → En → Prop}
theorem r_nil (k : Q [] e) : Wp (rNil e) Q X := wp_eq rfl k
theorem r_cons {qr : XR} (h : Wp (p e) (fun d e1 => Wp (qr e1) (fun ds e2 => Q (.d d :: ds) e2) X) X) : Wp (rCons p qr e) Q X := wp_bind (wp_mid h fun _ _ h => wp_map h)
theorem r_io {qr : XR} {i : Nat} {t : Option Nat} {o : Ob} (h0 : e[i]? = some (.own t o)) (h : Wp (qr e) (fun ds e2 => Q (.io i :: ds) e2) X) : Wp (rIo i qr e) Q X := by
  unfold rIo
  rw [h0]
  exact wp_map h
theorem r_scr {qr : XR} {i : Nat} (h0 : e[i]? = some (.scr xs)) (h : Wp (qr e) (fun ds e2 => Q (.scr xs :: ds) e2) X) : Wp (rScr i qr e) Q X := by
  unfold rScr
  rw [h0]
  exact wp_map h
end
/-- the call itself, its arguments told -/
def Cl (n nio : Nat) (F : List Sl → RF) (as : List Ar) (e : En) : R D := if as.length = n ∧ (ios as).length = nio then match resolve e as 0 with
  | some args => behind e as (F args)
  | none => .bad
  else .bad
def ClN (n nio : Nat) (F : List Sl → RF) (as : List Ar) (e : En) : R (List D) := if as.length = n ∧ (ios as).length = nio then match resolve e as 0 with
  | some args => behindN e as (F args)
  | none => .bad
  else .bad
theorem w_fn {n nio : Nat} {F : List Sl → RF} {qr : XR} {Q : D → En → Prop} (h : Wp (qr e) (fun as e1 => Wp (Cl n nio F as e1) Q X) X) : Wp (eFn n nio F qr e) Q X := wp_bind h
theorem n_fn {n nio : Nat} {F : List Sl → RF} {qr : XR} {Q : List D → En → Prop} (h : Wp (qr e) (fun as e1 => Wp (ClN n nio F as e1) Q X) X) : Wp (nFn n nio F qr e) Q X := wp_bind h
section
variable {n : Nat} {F : List Sl → RF} {as : List Ar} {args : List Sl} {os : List Ob} {Q : D → En → Prop}
theorem c_ok (hF : F args = .ok d os) (k : Q d e) (hn : as.length = n := by rfl) (hi : ios as = [] := by rfl) (hr : resolve e as 0 = some args := by rfl) : Wp (Cl n 0 F as e) Q X := by
  unfold Cl
  rw [if_pos ⟨hn, by rw [hi]; rfl⟩, hr]
  show Wp (behind e as (F args)) Q X
  rw [hF]; unfold behind; rw [hi]; exact wp_eq rfl k
theorem c_new (hF : F args = .new ds os) (k : Q (.list ds) e) (hn : as.length = n := by rfl) (hi : ios as = [] := by rfl) (hr : resolve e as 0 = some args := by rfl) : Wp (Cl n 0 F as e) Q X := by
  unfold Cl
  rw [if_pos ⟨hn, by rw [hi]; rfl⟩, hr]
  show Wp (behind e as (F args)) Q X
  rw [hF]; unfold behind; rw [hi]; exact wp_eq rfl k
theorem c_newN {Q : List D → En → Prop} (hF : F args = .new ds os) (k : Q ds e) (hn : as.length = n := by rfl) (hi : ios as = [] := by rfl) (hr : resolve e as 0 = some args := by rfl) : Wp (ClN n 0 F as e) Q X := by
  unfold ClN
  rw [if_pos ⟨hn, by rw [hi]; rfl⟩, hr]
  show Wp (behindN e as (F args)) Q X
  rw [hF]; unfold behindN; rw [hi]; exact wp_eq rfl k
theorem c_io {i : Nat} {t : Option Nat} {o o' : Ob} (hF : F args = .ok d [o']) (k : Q d (e.set i (.own t o'))) (h0 : e[i]? = some (.own t o) := by rfl) (hn : as.length = n := by rfl) (hi : ios as = [i] := by rfl) (hr : resolve e as 0 = some args := by rfl) : Wp (Cl n 1 F as e) Q X := by
  unfold Cl
  rw [if_pos ⟨hn, by rw [hi]; rfl⟩, hr]
  show Wp (behind e as (F args)) Q X
  rw [hF]; unfold behind; rw [hi]
  show Wp (match putO e i o' with | some e' => R.ok d e' | none => .bad) Q X
  unfold putO; rw [h0]; exact wp_eq rfl k
theorem c_ioV {i : Nat} {t : Option Nat} {o o' : Ob} (hF : F args = .new ds [o']) (k : Q (.list ds) (e.set i (.own t o'))) (h0 : e[i]? = some (.own t o) := by rfl) (hn : as.length = n := by rfl) (hi : ios as = [i] := by rfl) (hr : resolve e as 0 = some args := by rfl) : Wp (Cl n 1 F as e) Q X := by
  unfold Cl
  rw [if_pos ⟨hn, by rw [hi]; rfl⟩, hr]
  show Wp (behind e as (F args)) Q X
  rw [hF]; unfold behind; rw [hi]
  show Wp (match putO e i o' with | some e' => R.ok (.list ds) e' | none => .bad) Q X
  unfold putO; rw [h0]; exact wp_eq rfl k
theorem c_ioN {i : Nat} {t : Option Nat} {o o' : Ob} {Q : List D → En → Prop} (hF : F args = .new ds [o']) (k : Q ds (e.set i (.own t o'))) (h0 : e[i]? = some (.own t o) := by rfl) (hn : as.length = n := by rfl) (hi : ios as = [i] := by rfl) (hr : resolve e as 0 = some args := by rfl) : Wp (ClN n 1 F as e) Q X := by
  unfold ClN
  rw [if_pos ⟨hn, by rw [hi]; rfl⟩, hr]
  show Wp (behindN e as (F args)) Q X
  rw [hF]; unfold behindN; rw [hi]
  show Wp (match putO e i o' with | some e' => R.ok ds e' | none => .bad) Q X
  unfold putO; rw [h0]; exact wp_eq rfl k
end
/-! ### a body -/
def fin (nio : Nat) (Q : RF → Prop) : Fl → En → Prop
  | .rt d, e => WpO (outsOf nio e) fun os => Q (.ok d os)
  | .nx, e => WpO (outsOf nio e) fun os => Q (.ok .none os)
  | .rn ds, e => WpO (outsOf nio e) fun os => Q (.new ds os)
  | _, _ => False
theorem fin_rt {nio : Nat} {Q : RF → Prop} {os : List Ob} (h : Q (.ok d os)) (ho : outsOf nio e = some os := by rfl) : fin nio Q (.rt d) e := wpo ho h
theorem fin_nx {nio : Nat} {Q : RF → Prop} {os : List Ob} (h : Q (.ok .none os)) (ho : outsOf nio e = some os := by rfl) : fin nio Q .nx e := wpo ho h
theorem fin_rn {nio : Nat} {Q : RF → Prop} {os : List Ob} (h : Q (.new ds os)) (ho : outsOf nio e = some os := by rfl) : fin nio Q (.rn ds) e := wpo ho h
theorem b_run {n nio : Nat} {b : XS} {args : List Sl} {Q : RF → Prop} (h : Wp (b (args ++ List.replicate (n - args.length) .un)) (fin nio Q) NX) : Q (runF n nio b args) := by
  unfold runF
  obtain ⟨f, e, h1, h⟩ := wp_out h
  rw [h1]
  cases f with
  | bk => exact h.elim
  | ct => exact h.elim
  | nx => obtain ⟨os, h1, h2⟩ := wpo_out h; simp only [h1]; exact h2
  | rt d => obtain ⟨os, h1, h2⟩ := wpo_out h; simp only [h1]; exact h2
  | rn d => obtain ⟨os, h1, h2⟩ := wpo_out h; simp only [h1]; exact h2
theorem nox_ok {F : RF} {d : D} {os : List Ob} (h : F = .ok d os) : F.nox = .ok d os := by rw [h]; rfl
theorem nox_new {F : RF} {d : List D} {os : List Ob} (h : F = .new d os) : F.nox = .new d os := by rw [h]; rfl
end
/-! ### data -/
section
variable {Q : D → Prop} {i j : Int} {xs ys : List D}
theorem o_addI (k : Q (.int (i + j))) : WpO (dAdd (.int i) (.int j)) Q := wpo rfl k
theorem o_subI (k : Q (.int (i - j))) : WpO (dSub (.int i) (.int j)) Q := wpo rfl k
theorem o_mulI (h : CMul i j) (k : Q (.int (i * j))) : WpO (dMul (.int i) (.int j)) Q := wpo (by rw [dMul_int, if_pos h]) k
theorem o_modI (h : 0 < j) (k : Q (.int (i % j))) : WpO (dMod (.int i) (.int j)) Q := wpo (by rw [dMod_int, if_pos h]) k
theorem o_divI (h : CDiv i j) (k : Q (.int (i / j))) : WpO (dDiv (.int i) (.int j)) Q := wpo (by rw [dDiv_int, if_pos h]) k
theorem o_shlI (h : CPow i j) (k : Q (.int (i * 2 ^ j.toNat))) : WpO (dShl (.int i) (.int j)) Q := wpo (by rw [dShl_int, if_pos h]) k
theorem o_powI (h : CPow i j) (k : Q (.int (i ^ j.toNat))) : WpO (dPow (.int i) (.int j)) Q := wpo (by rw [dPow_int, if_pos h]) k
theorem o_shrI (h : 0 ≤ j) (k : Q (.int (i / 2 ^ j.toNat))) : WpO (dShr (.int i) (.int j)) Q := wpo (by rw [dShr_int, if_pos h]) k
theorem o_ltI (k : Q (.bool (decide (i < j)))) : WpO (dLt (.int i) (.int j)) Q := wpo rfl k
theorem o_leI (k : Q (.bool (decide (i ≤ j)))) : WpO (dLe (.int i) (.int j)) Q := wpo rfl k
theorem o_gtI (k : Q (.bool (decide (j < i)))) : WpO (dGt (.int i) (.int j)) Q := wpo rfl k
theorem o_geI (k : Q (.bool (decide (j ≤ i)))) : WpO (dGe (.int i) (.int j)) Q := wpo rfl k
theorem o_eqI (k : Q (.bool (decide (i = j)))) : WpO (dEq (.int i) (.int j)) Q := wpo rfl k
theorem o_neI (k : Q (.bool (!decide (i = j)))) : WpO (dNe (.int i) (.int j)) Q := wpo rfl k
theorem o_eqS {a b : List Nat} (k : Q (.bool (decide (a = b)))) : WpO (dEq (.str (tx a)) (.str (tx b))) Q := wpo (by rw [dEq_str]) (by simpa using k)
theorem o_neS {a b : List Nat} (k : Q (.bool (!decide (a = b)))) : WpO (dNe (.str (tx a)) (.str (tx b))) Q := wpo (by rw [dNe_str]) (by simpa using k)
theorem o_addS {a b : List Nat} (h : a.length + b.length ≤ 1000000) (k : Q (.str (tx (a ++ b)))) : WpO (dAdd (.str (tx a)) (.str (tx b))) Q := wpo (dAdd_tx h) k
theorem o_addL (h : xs.length + ys.length ≤ 1000000) (k : Q (.list (xs ++ ys))) : WpO (dAdd (.list xs) (.list ys)) Q := wpo (by rw [dAdd_list, if_pos (le_line h)]) k
theorem o_lenL (k : Q (.int (xs.length : Nat))) : WpO (dLen [.list xs]) Q := wpo rfl k
theorem o_lenT (k : Q (.int (xs.length : Nat))) : WpO (dLen [.tuple xs]) Q := wpo rfl k
theorem o_lenS {a : List Nat} (h : a.length ≤ 1000000) (k : Q (.int (a.length : Nat))) : WpO (dLen [.str (tx a)]) Q := wpo (by rw [dLen_str, if_pos (by rw [tx_len]; exact le_line h)]; rfl) k
theorem atN {γ : Type} {l : List γ} {n : Nat} (h : n < l.length) : atI l (n : Int) = some l[n] := by
  unfold atI ixN
  rw [if_pos (by omega), if_pos (by omega)]
  simp [h]
theorem o_ixL {n : Nat} (h : n < xs.length) (k : Q xs[n]) : WpO (dIx (.list xs) (.int (n : Nat))) Q := wpo (by rw [dIx_list]; exact atN h) k
theorem o_ixT {n : Nat} (h : n < xs.length) (k : Q xs[n]) : WpO (dIx (.tuple xs) (.int (n : Nat))) Q := wpo (by rw [dIx_tuple]; exact atN h) k
theorem o_ixS {a : List Nat} {n : Nat} (h : n < a.length) (hl : a.length ≤ 1000000) (k : Q (.str (tx [a[n]]))) : WpO (dIx (.str (tx a)) (.int (n : Nat))) Q :=
  wpo (by rw [dIx_str, if_pos (by rw [tx_len]; exact le_line hl), tx_cps, atN h]; rfl) k
theorem o_tupL (k : Q (.tuple xs)) : WpO (dTuple [.list xs]) Q := wpo rfl k
theorem o_tupT (k : Q (.tuple xs)) : WpO (dTuple [.tuple xs]) Q := wpo rfl k
theorem o_gTup (h : xs.length ≤ 1000000) (k : Q (.tuple xs)) : WpO (gTup xs) Q := wpo (by unfold gTup; rw [if_pos (le_line h)]) k
theorem o_gLst (h : xs.length ≤ 1000000) (k : Q (.list xs)) : WpO (gLst xs) Q := wpo (by unfold gLst; rw [if_pos (le_line h)]) k
theorem o_intI (k : Q (.int i)) : WpO (dInt [.int i]) Q := wpo rfl k
theorem o_intB {b : Bool} (k : Q (.int (if b then 1 else 0))) : WpO (dInt [.bool b]) Q := wpo rfl k
end
section
variable {Q : List D → Prop} {xs : List D}
theorem o_iL (k : Q xs) : WpO (iD (.list xs)) Q := wpo rfl k
theorem o_iT (k : Q xs) : WpO (iD (.tuple xs)) Q := wpo rfl k
theorem o_iS {a : List Nat} (k : Q (a.map fun c => .str (tx [c]))) : WpO (iD (.str (tx a))) Q := wpo rfl k
theorem rg1_map {n : Nat} (h : n ≤ 1000000) : rg1 [.int n] = some ((List.range n).map fun p => .int (p : Nat)) := by rw [rg1_nat h, rgD_nat']
theorem o_lL (k : Q xs) : WpO (lD [.list xs]) Q := wpo rfl k
theorem o_lT (k : Q xs) : WpO (lD [.tuple xs]) Q := wpo rfl k
end
theorem o_gTup0 {Q : D → Prop} (k : Q (.tuple [])) : WpO (gTup []) Q := wpo rfl k
theorem o_gLst0 {Q : D → Prop} (k : Q (.list [])) : WpO (gLst []) Q := wpo rfl k
theorem o_andI {Q : D → Prop} {i j : Int} (k : Q (.int (Builtin.bitAnd i j))) : WpO (dAnd (.int i) (.int j)) Q := wpo rfl k
theorem o_orI {Q : D → Prop} {i j : Int} (k : Q (.int (Builtin.bitOr i j))) : WpO (dOr (.int i) (.int j)) Q := wpo rfl k
theorem o_xorI {Q : D → Prop} {i j : Int} (k : Q (.int (Builtin.bitXor i j))) : WpO (dXor (.int i) (.int j)) Q := wpo rfl k
theorem w_neg {p : XE} {e : En} {X : Xn → En → Prop} {Q : D → En → Prop} (h : Wp (p e) (fun d e1 => ∃ i, d = .int i ∧ Q (.int (-i)) e1) X) : Wp (eNeg p e) Q X := by
  refine wp_bind (wp_mid h fun d e1 ⟨i, hd, k⟩ => ?_)
  subst hd
  exact wp_eq rfl k
theorem o_maxI {Q : D → Prop} {i j : Int} (k : Q (.int (if j > i then j else i))) : WpO (dMax [.int i, .int j]) Q := wpo rfl k
theorem o_minI {Q : D → Prop} {i j : Int} (k : Q (.int (if j < i then j else i))) : WpO (dMin [.int i, .int j]) Q := wpo rfl k
theorem o_absI {Q : D → Prop} {i : Int} (k : Q (.int (if i < 0 then -i else i))) : WpO (dAbs [.int i]) Q := wpo rfl k
/-- both ways of a test -/
theorem ite_d {p : Prop} [Decidable p] {A B : Prop} (h1 : p → A) (h2 : ¬p → B) : (decide p = true → A) ∧ (decide p = false → B) := ⟨fun h => h1 (of_decide_eq_true h), fun h => h2 (of_decide_eq_false h)⟩
theorem ite_nd {p : Prop} [Decidable p] {A B : Prop} (h1 : ¬p → A) (h2 : p → B) : ((!decide p) = true → A) ∧ ((!decide p) = false → B) := ⟨fun h => h1 (by simpa using h), fun h => h2 (by simpa using h)⟩
theorem ite_T {A B : Prop} (h : A) : (true = true → A) ∧ (true = false → B) := ⟨fun _ => h, fun z => Bool.noConfusion z⟩
theorem ite_F {A B : Prop} (h : B) : (false = true → A) ∧ (false = false → B) := ⟨fun z => Bool.noConfusion z, fun _ => h⟩
theorem ite_t {b : Bool} {A B : Prop} (hb : b = true) (h : A) : (b = true → A) ∧ (b = false → B) := ⟨fun _ => h, fun z => (by rw [hb] at z; cases z)⟩
theorem ite_f {b : Bool} {A B : Prop} (hb : b = false) (h : B) : (b = true → A) ∧ (b = false → B) := ⟨fun z => (by rw [hb] at z; cases z), fun _ => h⟩
theorem o_intAI {Q : D → Prop} {i : Int} (k : Q (.int i)) : WpO (dIntA [.int i]) Q := wpo rfl k
theorem o_intAB {Q : D → Prop} {b : Bool} (k : Q (.int (if b then 1 else 0))) : WpO (dIntA [.bool b]) Q := wpo (d := .int (if b then 1 else 0)) (by rfl) k
/-- a cut behind a statement that goes on -/
def nxI (I : En → Prop) : Fl → En → Prop
  | .nx, e => I e
  | _, _ => False
theorem nxI_nx {I : En → Prop} {e : En} (h : I e) : nxI I .nx e := h
theorem s_cut {I : En → Prop} {s1 s2 : XS} {e : En} {Q : Fl → En → Prop} {X : Xn → En → Prop} (h : Wp (s1 e) (nxI I) X) (k : ∀ e1, I e1 → Wp (s2 e1) Q X) : Wp (sSeq s1 s2 e) Q X :=
  s_seq (wp_mid h fun f e1 hI => by
    cases f with
    | nx => exact k e1 hI
    | _ => exact False.elim hI)
theorem o_ixC {Q : D → Prop} {xs : List D} {k : Nat} {d : D} (h : xs[k]? = some d) (q : Q d) : WpO (dIx (.list xs) (.int (@OfNat.ofNat Int k (@instOfNat k)))) Q := by
  have hk : k < xs.length := (List.getElem?_eq_some_iff.mp h).1
  refine wpo (d := d) ?_ q
  show dIx (.list xs) (.int ((k : Nat) : Int)) = _
  rw [dIx_list, atN hk, ← h, List.getElem?_eq_getElem hk]
theorem o_ixLs {Q : D → Prop} {xs : List D} {k : Nat} {d : D} (h : xs[k]? = some d) (q : Q d) : WpO (dIx (.list xs) (.int (k : Nat))) Q := by
  have hk : k < xs.length := (List.getElem?_eq_some_iff.mp h).1
  refine wpo (d := d) ?_ q
  rw [dIx_list, atN hk, ← h, List.getElem?_eq_getElem hk]
theorem o_ixTs {Q : D → Prop} {xs : List D} {k : Nat} {d : D} (h : xs[k]? = some d) (q : Q d) : WpO (dIx (.tuple xs) (.int (k : Nat))) Q := by
  have hk : k < xs.length := (List.getElem?_eq_some_iff.mp h).1
  refine wpo (d := d) ?_ q
  rw [dIx_tuple, atN hk, ← h, List.getElem?_eq_getElem hk]
theorem bitAnd_nat (a b : Nat) : Builtin.bitAnd (a : Int) (b : Int) = ((a &&& b : Nat) : Int) := by
  unfold Builtin.bitAnd
  rw [decide_eq_true (show (0 : Int) ≤ a by omega), decide_eq_true (show (0 : Int) ≤ b by omega)]
  show (((a : Int).toNat &&& (b : Int).toNat : Nat) : Int) = _
  rw [Int.toNat_natCast, Int.toNat_natCast]
theorem bitOr_nat (a b : Nat) : Builtin.bitOr (a : Int) (b : Int) = ((a ||| b : Nat) : Int) := by
  have h : ∀ c : Nat, Builtin.bitNot (c : Int) = -(c : Int) - 1 := fun c => rfl
  have h2 : ∀ c : Nat, Builtin.bitNot (-(c : Int) - 1) = c := fun c => by show -(-(c : Int) - 1) - 1 = c; omega
  unfold Builtin.bitOr
  rw [h, h]
  unfold Builtin.bitAnd
  rw [decide_eq_false (show ¬ (0 : Int) ≤ -(a : Int) - 1 by omega), decide_eq_false (show ¬ (0 : Int) ≤ -(b : Int) - 1 by omega)]
  show Builtin.bitNot (Builtin.bitNot (((Builtin.bitNot (-(a : Int) - 1)).toNat ||| (Builtin.bitNot (-(b : Int) - 1)).toNat : Nat) : Int)) = _
  rw [h2, h2, Int.toNat_natCast, Int.toNat_natCast, h, h2]
theorem bitXor_nat (a b : Nat) : Builtin.bitXor (a : Int) (b : Int) = (((a ||| b) - (a &&& b) : Nat) : Int) := by
  unfold Builtin.bitXor
  rw [bitOr_nat, bitAnd_nat]
  have : a &&& b ≤ a ||| b := Nat.le_trans Nat.and_le_left Nat.left_le_or
  omega
theorem mPop_of {xs : List D} {i : Int} {k : Nat} {y : D} (hb : -(2 ^ 63) ≤ i ∧ i < 2 ^ 63) (hk : ixN xs.length i = some k) (hy : xs[k]? = some y) : mPop xs [.int i] = some (y, xs.eraseIdx k) := by
  show (if -(2 ^ 63) ≤ i ∧ i < 2 ^ 63 then match ixN xs.length i with
    | some k => match xs[k]? with
      | some y => some (y, xs.eraseIdx k)
      | none => none
    | none => none
    else none) = _
  rw [if_pos hb, hk]
  show (match xs[k]? with
      | some y => some (y, xs.eraseIdx k)
      | none => none) = _
  rw [hy]
theorem ixN_nat {n r : Nat} (h : r < n) : ixN n (r : Int) = some r := by
  unfold ixN
  rw [if_pos (by omega), if_pos (by omega)]
  simp
theorem w_lenScr {i : Nat} {xs : List D} {e : En} {X : Xn → En → Prop} {Q : D → En → Prop} (h0 : e[i]? = some (.scr xs)) (k : Q (.int (xs.length : Nat)) e) : Wp (eLenScr i e) Q X := by
  unfold eLenScr; rw [h0]; exact wp_eq rfl k
theorem i_scr {i : Nat} {xs : List D} {e : En} {X : Xn → En → Prop} {Q : List D → En → Prop} (h0 : e[i]? = some (.scr xs)) (k : Q xs e) : Wp (iScr i e) Q X := by
  unfold iScr; rw [h0]; exact wp_eq rfl k
theorem ite_NT {A B : Prop} (h : B) : ((!true) = true → A) ∧ ((!true) = false → B) := ⟨fun z => Bool.noConfusion z, fun _ => h⟩
theorem ite_NF {A B : Prop} (h : A) : ((!false) = true → A) ∧ ((!false) = false → B) := ⟨fun _ => h, fun z => Bool.noConfusion z⟩
end G
set_option Elab.async false
set_option linter.all false
set_option maxRecDepth 100000
/-! the rules of GW for what raises and catches, and for a name's own dict -/
namespace G
open PySem PySem.Spec PyProof.Rows L2
section
variable {e e1 : En} {d : D} {X : Xn → En → Prop} {p q : XE} {os : List Ob} {as : List Ar} {args : List Sl} {F : List Sl → RF} {n : Nat}
def finX (nio : Nat) (Q : RF → Prop) : Xn → En → Prop := fun x e => WpO (outsOf nio e) fun os => Q (.ex x os)
theorem finX_of {nio : Nat} {Q : RF → Prop} {x : Xn} (h : Q (.ex x os)) (ho : outsOf nio e = some os := by rfl) : finX nio Q x e := wpo ho h
theorem b_runX {n nio : Nat} {b : XS} {args : List Sl} {Q : RF → Prop} (h : Wp (b (args ++ List.replicate (n - args.length) .un)) (fin nio Q) (finX nio Q)) : Q (runF n nio b args) := by
  unfold runF
  cases h with
  | ok h1 h =>
    rename_i f e
    rw [h1]
    cases f with
    | bk => exact h.elim
    | ct => exact h.elim
    | nx => obtain ⟨os, h1, h2⟩ := wpo_out h; simp only [h1]; exact h2
    | rt d => obtain ⟨os, h1, h2⟩ := wpo_out h; simp only [h1]; exact h2
    | rn d => obtain ⟨os, h1, h2⟩ := wpo_out h; simp only [h1]; exact h2
  | ex h1 h =>
    rw [h1]
    obtain ⟨os, h1, h2⟩ := wpo_out h
    simp only [h1]
    exact h2
theorem c_ex {Q : D → En → Prop} {x : Xn} (hF : F args = .ex x os) (k : X x e) (hn : as.length = n := by rfl) (hi : ios as = [] := by rfl) (hr : resolve e as 0 = some args := by rfl) : Wp (Cl n 0 F as e) Q X := by
  unfold Cl
  rw [if_pos ⟨hn, by rw [hi]; rfl⟩, hr]
  show Wp (behind e as (F args)) Q X
  rw [hF]; unfold behind; rw [hi]; exact .ex rfl k
theorem s_try {i j : Nat} {tbl : Str → Option Bool} {s : XS} {Q : Fl → En → Prop} (h : Wp (s e) Q (fun x e1 => ∃ b, tbl x.cls = some b ∧ (b = true → Q .nx ((e1.set j (.raw x)).set i .un)) ∧ (b = false → X x e1))) : Wp (sTry i j tbl s e) Q X := by
  unfold sTry
  cases h with
  | ok h q => rw [h]; exact .ok rfl q
  | ex h q =>
    obtain ⟨b, h1, h2, h3⟩ := q
    rw [h]
    dsimp only
    rw [h1]
    cases b with
    | true => exact .ok rfl (h2 rfl)
    | false => exact .ex rfl (h3 rfl)
theorem s_raise {nm : Str} {Q : Fl → En → Prop} (h : Wp (p e) (fun _ e1 => X ⟨nm, []⟩ e1) X) : Wp (sRaise nm p e) Q X := wp_bind (wp_mid h fun _ _ h => .ex rfl h)
theorem w_jsN {acc : Str} {Q : D → En → Prop} (h : Q (.str acc) e) : Wp (eJs [] acc e) Q X := wp_eq rfl h
theorem w_jsC {ps : List XE} {acc : Str} {Q : D → En → Prop} (h : Wp (p e) (fun d e1 => ∃ y, d = .str y ∧ (acc ++ y).length ≤ sizeLine ∧ Wp (eJs ps (acc ++ y) e1) Q X) X) : Wp (eJs (p :: ps) acc e) Q X := by
  refine wp_bind (wp_mid h fun d e1 ⟨y, hd, h1, h2⟩ => ?_)
  subst hd
  dsimp only
  rw [if_pos h1]
  exact h2
theorem w_fmt {Q : D → En → Prop} (h : Wp (p e) (fun d e1 => ∃ y, d = .str y ∧ y.length ≤ sizeLine ∧ Q (.str y) e1) X) : Wp (eFmt p e) Q X := by
  refine wp_bind (wp_mid h fun d e1 ⟨y, hd, h1, h2⟩ => ?_)
  subst hd
  dsimp only
  rw [if_pos h1]
  exact wp_eq rfl h2
theorem w_fmtI {Q : D → En → Prop} (h : Wp (p e) (fun d e1 => ∃ y, d = .int y ∧ y.natAbs.log2 < 1920 ∧ Q (.str (toString y)) e1) X) : Wp (eFmt p e) Q X := by
  refine wp_bind (wp_mid h fun d e1 ⟨y, hd, h1, h2⟩ => ?_)
  subst hd
  dsimp only
  rw [if_pos h1]
  exact wp_eq rfl h2
theorem w_isX {i : Nat} {tbl : Str → Option Bool} {x : Xn} {b : Bool} {Q : D → En → Prop} (h0 : e[i]? = some (.raw x)) (h1 : tbl x.cls = some b) (h : Q (.bool b) e) : Wp (eIsX i tbl e) Q X := by
  unfold eIsX
  rw [h0]
  dsimp only
  rw [h1]
  exact wp_eq rfl h
theorem w_isNX {i : Nat} {s : Sl} {b : Bool} {Q : D → En → Prop} (h0 : e[i]? = some s) (h1 : isNX s = some b) (h : Q (.bool b) e) : Wp (eIsNX i e) Q X := by
  unfold eIsNX
  rw [h0]
  dsimp only
  rw [h1]
  exact wp_eq rfl h
theorem w_notNX {i : Nat} {s : Sl} {b : Bool} {Q : D → En → Prop} (h0 : e[i]? = some s) (h1 : isNX s = some b) (h : Q (.bool (!b)) e) : Wp (eNotNX i e) Q X := by
  unfold eNotNX
  rw [h0]
  dsimp only
  rw [h1]
  exact wp_eq rfl h
theorem r_exn {i : Nat} {x : Xn} {qr : XR} {Q : List Ar → En → Prop} (h0 : e[i]? = some (.raw x)) (h : Wp (qr e) (fun as e1 => Q (.raw x :: as) e1) X) : Wp (rExn i qr e) Q X := by
  unfold rExn
  rw [h0]
  exact wp_map h
theorem s_dic {i : Nat} {Q : Fl → En → Prop} (h : Q .nx (e.set i (.own none (.dic [])))) : Wp (sDic i e) Q X := wp_eq rfl h
theorem w_getD {i : Nat} {t : Option Nat} {kvs : List (Key × D)} {Q : D → En → Prop} (h0 : e[i]? = some (.own t (.dic kvs))) (h : Wp (q e) (fun d e1 => ∃ u ls k, e1[i]? = some (.own u (.dic ls)) ∧ dKey d = some k ∧ WpO (valD ls k) fun d => Q d e1) X) : Wp (eGetD i q e) Q X := by
  unfold eGetD
  rw [h0]
  refine wp_bind (wp_mid h fun d e1 ⟨u, ls, k, h1, h2, h3⟩ => ?_)
  rw [h1, h2]
  exact wp_lift h3
theorem s_putD {i : Nat} {Q : Fl → En → Prop} (h : Wp (p e) (fun d e1 => ∃ t kvs, e1[i]? = some (.own t (.dic kvs)) ∧ Wp (q e1) (fun kd e2 => ∃ u ls k, e2[i]? = some (.own u (.dic ls)) ∧ dKey kd = some k ∧ ls.length < sizeLine ∧ Q .nx (e2.set i (.own u (.dic (putD ls k d))))) X) X) : Wp (sPutD i q p e) Q X := by
  refine wp_bind (wp_mid h fun d e1 ⟨t, kvs, h1, h2⟩ => ?_)
  rw [h1]
  refine wp_bind (wp_mid h2 fun kd e2 ⟨u, ls, k, g1, g2, g3, g4⟩ => ?_)
  rw [g1, g2]
  dsimp only
  rw [if_pos g3]
  exact wp_eq rfl g4
theorem n_addL {Q : List D → En → Prop} (h : Wp (p e) (fun a e1 => Wp (q e1) (fun b e2 => ∃ xs ys, a = .list xs ∧ b = .list ys ∧ xs.length + ys.length ≤ sizeLine ∧ Q (xs ++ ys) e2) X) X) : Wp (nAddL p q e) Q X := by
  refine wp_bind (wp_mid h fun a e1 h1 => wp_bind (wp_mid h1 fun b e2 ⟨xs, ys, g1, g2, g3, g4⟩ => ?_))
  subst g1 g2
  dsimp only
  rw [if_pos g3]
  exact .ok rfl g4
end
end G
set_option Elab.async false
set_option linter.all false
set_option maxRecDepth 100000
namespace G
open PySem PySem.Spec PyProof.Rows L2
def topS (i : Nat) : Stmt := PySem.Challenge.pw_facesparted_k04_texts_of_no_sets.main.body.getD i (.Pass ⟨0, 0, 0, 0⟩)
def clsBody (s : Stmt) : List Stmt := match s with
  | .ClassDef _ _ _ b _ _ _ _ _ _ _ => b
  | _ => []
abbrev s_init_NoSet : Stmt := (clsBody (topS 4)).getD 0 (.Pass ⟨0, 0, 0, 0⟩)
abbrev s_init_NoCorner : Stmt := (clsBody (topS 5)).getD 0 (.Pass ⟨0, 0, 0, 0⟩)
abbrev s_corners_of : Stmt := topS 8
abbrev s_read_set : Stmt := topS 9
abbrev s__law_mix : Stmt := topS 11
abbrev s__law_deck : Stmt := topS 12
abbrev s__law_next : Stmt := topS 13
abbrev s__law_bits : Stmt := topS 14
abbrev s__law_face : Stmt := topS 15
abbrev s__law_all : Stmt := topS 16
abbrev s__law_lies : Stmt := topS 17
abbrev s__law_set : Stmt := topS 18
abbrev s__law_kind : Stmt := topS 19
abbrev s__law_sign : Stmt := topS 20
abbrev s__law_spoilt : Stmt := topS 21
abbrev s__law_due : Stmt := topS 22
abbrev s__law_right : Stmt := topS 23
abbrev s_law : Stmt := topS 24
structure Tx (K : Frag) (mg : Str → Option Value) (a : Nat → Addr) (fd : Nat → FuncData) : Prop where
  f_corners_of : Fun K "corners_of" "corners_of" s_corners_of (a 0) (fd 0)
  g_corners_of : mg "corners_of" = some (.ref (a 0))
  f_read_set : Fun K "read_set" "read_set" s_read_set (a 1) (fd 1)
  g_read_set : mg "read_set" = some (.ref (a 1))
  f__law_mix : Fun K "_law_mix" "_law_mix" s__law_mix (a 2) (fd 2)
  g__law_mix : mg "_law_mix" = some (.ref (a 2))
  f__law_deck : Fun K "_law_deck" "_law_deck" s__law_deck (a 3) (fd 3)
  g__law_deck : mg "_law_deck" = some (.ref (a 3))
  f__law_next : Fun K "_law_next" "_law_next" s__law_next (a 4) (fd 4)
  g__law_next : mg "_law_next" = some (.ref (a 4))
  f__law_bits : Fun K "_law_bits" "_law_bits" s__law_bits (a 5) (fd 5)
  g__law_bits : mg "_law_bits" = some (.ref (a 5))
  f__law_face : Fun K "_law_face" "_law_face" s__law_face (a 6) (fd 6)
  g__law_face : mg "_law_face" = some (.ref (a 6))
  f__law_all : Fun K "_law_all" "_law_all" s__law_all (a 7) (fd 7)
  g__law_all : mg "_law_all" = some (.ref (a 7))
  f__law_lies : Fun K "_law_lies" "_law_lies" s__law_lies (a 8) (fd 8)
  g__law_lies : mg "_law_lies" = some (.ref (a 8))
  f__law_set : Fun K "_law_set" "_law_set" s__law_set (a 9) (fd 9)
  g__law_set : mg "_law_set" = some (.ref (a 9))
  f__law_kind : Fun K "_law_kind" "_law_kind" s__law_kind (a 10) (fd 10)
  g__law_kind : mg "_law_kind" = some (.ref (a 10))
  f__law_sign : Fun K "_law_sign" "_law_sign" s__law_sign (a 11) (fd 11)
  g__law_sign : mg "_law_sign" = some (.ref (a 11))
  f__law_spoilt : Fun K "_law_spoilt" "_law_spoilt" s__law_spoilt (a 12) (fd 12)
  g__law_spoilt : mg "_law_spoilt" = some (.ref (a 12))
  f__law_due : Fun K "_law_due" "_law_due" s__law_due (a 13) (fd 13)
  g__law_due : mg "_law_due" = some (.ref (a 13))
  f__law_right : Fun K "_law_right" "_law_right" s__law_right (a 14) (fd 14)
  g__law_right : mg "_law_right" = some (.ref (a 14))
  f_law : Fun K "law" "law" s_law (a 15) (fd 15)
  g_law : mg "law" = some (.ref (a 15))
  z_ValueError : mg "ValueError" = none
  z_bool : mg "bool" = none
  z_enumerate : mg "enumerate" = none
  z_int : mg "int" = none
  z_isinstance : mg "isinstance" = none
  z_len : mg "len" = none
  z_max : mg "max" = none
  z_range : mg "range" = none
  z_str : mg "str" = none
  z_sum : mg "sum" = none
  z_tuple : mg "tuple" = none
  z_zip : mg "zip" = none
  k_SET_LENGTHS : ∃ c : Addr, mg "SET_LENGTHS" = some (.ref c) ∧ KT K c [.int 2, .int 4, .int 8, .int 16, .int 32, .int 64]
  g_FaceError : mg "FaceError" = some (.ref (a 18))
  v_FaceError : AbvC K mg "FaceError" (a 18)
  g_NoParting : mg "NoParting" = some (.ref (a 19))
  s_NoParting : PySem.W.findIn K (.ref (a 19)) "__str__" = some (some (.builtin "BaseException.__str__"))
  x_NoParting : ExcT K mg "NoParting" (a 19)
  q_NoParting : PySem.W.excIn K (a 19) [.type "ValueError", .type "Exception", .type "BaseException", .type "object"] "ValueError.__new__" = true
  g_NoAsk : mg "NoAsk" = some (.ref (a 20))
  s_NoAsk : PySem.W.findIn K (.ref (a 20)) "__str__" = some (some (.builtin "BaseException.__str__"))
  x_NoAsk : ExcT K mg "NoAsk" (a 20)
  q_NoAsk : PySem.W.excIn K (a 20) [.type "ValueError", .type "Exception", .type "BaseException", .type "object"] "ValueError.__new__" = true
  g_NoSet : mg "NoSet" = some (.ref (a 21))
  n_NoSet : PySem.W.nsIn K mainGlobals "NoSet" = some (some (.ref (a 21)))
  o_NoSet : OexC K (a 21)
  oi_NoSet : PySem.W.findIn K (.ref (a 21)) "__init__" = some (some (.ref (a 16)))
  ot_NoSet : PySem.W.typeIn K (.ref (a 16)) = some (.type "function")
  of_NoSet : Fun K "__init__" "NoSet.__init__" s_init_NoSet (a 16) (fd 16)
  on_NoSet : PySem.W.findIn K (.ref (a 21)) "place" = some none
  g_NoCorner : mg "NoCorner" = some (.ref (a 22))
  n_NoCorner : PySem.W.nsIn K mainGlobals "NoCorner" = some (some (.ref (a 22)))
  o_NoCorner : OexC K (a 22)
  oi_NoCorner : PySem.W.findIn K (.ref (a 22)) "__init__" = some (some (.ref (a 17)))
  ot_NoCorner : PySem.W.typeIn K (.ref (a 17)) = some (.type "function")
  of_NoCorner : Fun K "__init__" "NoCorner.__init__" s_init_NoCorner (a 17) (fd 17)
  on_NoCorner : PySem.W.findIn K (.ref (a 22)) "corner" = some none
  a_corner : TblF K "corner" ["NoCorner"]
  a_place : TblF K "place" ["NoSet"]
  i_NoAsk : TblI K (.ref (a 20)) (tblL [("NoSet", false), ("NoCorner", false)])
  i_NoCorner : TblI K (.ref (a 22)) (tblL [("NoSet", false), ("NoCorner", true)])
  i_NoParting : TblI K (.ref (a 19)) (tblL [("NoSet", false), ("NoCorner", false)])
  i_NoSet : TblI K (.ref (a 21)) (tblL [("NoSet", true), ("NoCorner", false)])
  i_FaceError : TblI K (.ref (a 18)) (tblL [("NoSet", true), ("NoCorner", true)])
  i_ValueError : TblI K (.type "ValueError") (tblL [("NoSet", true), ("NoCorner", true)])
  e_FaceError : TblE K (.ref (a 18)) (tblL [("NoSet", true), ("NoCorner", true)])
/-! ### NoSet.__init__ -/
theorem sc_init_NoSet : FnScope ["self", "place"] ["self", "place"] (defScope s_init_NoSet) := ⟨rfl, rfl, rfl, by decide +kernel, rfl, by decide +kernel, by decide +kernel⟩
theorem b_init_NoSet {K : Frag} {mg : Str → Option Value} {a : Nat → Addr} {fd : Nat → FuncData} (T : Tx K mg a fd) : Binds K (fd 16) ["self", "place"] [] := T.of_NoSet.binds (ps := ["self", "place"]) fun _ _ _ _ _ _ us hl => match us, hl with | [_, _], _ => rfl
theorem ok_init_NoSet {P : Program} {w : World} {K : Frag} {mg : Str → Option Value} {base : Heap} {a : Nat → Addr} {fd : Nat → FuncData} (T : Tx K mg a fd) : FnOk P w K mg base CX0 1 (a 16) (fd 16) ["self", "place"] (spIn K (a 21) "place") :=
  Fun.ok (N := ["self", "place"]) T.of_NoSet sc_init_NoSet (fun vs H Q E ⟨_, _, h, _⟩ => by rw [h]; rfl) fun cdv A outer s H vs Q E hr h => ⟨tInit K "place" (Str.ofString "no set of corners, at ") (tFmt (tVar 1)),
    pss_cons (ps_expr (pe_abv T.v_FaceError (by rfl) (pa_cons (pv 0) (pa_cons (pe_joined (.cons pe_str (.cons (pe_fmt (pv 1)) .nil))) pa_nil))) (by rfl)) (pss_one (ps_ost (pv 0) (pv 1))),
    pure_init T.o_NoSet T.on_NoSet (by decide) rfl fmt_short h⟩
/-! ### NoCorner.__init__ -/
theorem sc_init_NoCorner : FnScope ["self", "corner"] ["self", "corner"] (defScope s_init_NoCorner) := ⟨rfl, rfl, rfl, by decide +kernel, rfl, by decide +kernel, by decide +kernel⟩
theorem b_init_NoCorner {K : Frag} {mg : Str → Option Value} {a : Nat → Addr} {fd : Nat → FuncData} (T : Tx K mg a fd) : Binds K (fd 17) ["self", "corner"] [] := T.of_NoCorner.binds (ps := ["self", "corner"]) fun _ _ _ _ _ _ us hl => match us, hl with | [_, _], _ => rfl
theorem ok_init_NoCorner {P : Program} {w : World} {K : Frag} {mg : Str → Option Value} {base : Heap} {a : Nat → Addr} {fd : Nat → FuncData} (T : Tx K mg a fd) : FnOk P w K mg base CX0 1 (a 17) (fd 17) ["self", "corner"] (spIn K (a 22) "corner") :=
  Fun.ok (N := ["self", "corner"]) T.of_NoCorner sc_init_NoCorner (fun vs H Q E ⟨_, _, h, _⟩ => by rw [h]; rfl) fun cdv A outer s H vs Q E hr h => ⟨tInit K "corner" (Str.ofString "not such a corner: ") (tFmt (tVar 1)),
    pss_cons (ps_expr (pe_abv T.v_FaceError (by rfl) (pa_cons (pv 0) (pa_cons (pe_joined (.cons pe_str (.cons (pe_fmt (pv 1)) .nil))) pa_nil))) (by rfl)) (pss_one (ps_ost (pv 0) (pv 1))),
    pure_init T.o_NoCorner T.on_NoCorner (by decide) rfl fmt_short h⟩
/-! ### corners_of -/
theorem sc_corners_of : FnScope ["face", "begun", "sign", "choices", "start", "choice"] ["face"] (defScope s_corners_of) := ⟨rfl, rfl, rfl, by decide +kernel, rfl, by decide +kernel, by decide +kernel⟩
def body_corners_of : XS :=
  (sSeq (sSet 1 (eCall gLst (aCons (eC (.str (Str.ofString ""))) aNil)))
  (sSeq (sFor (iOf (eVar 0)) (gN 2) (sSeq (sSet 3 (eIf (tOf (eOp dEq (eVar 2) (eC (.str (Str.ofString "*"))))) (eC (.str (Str.ofString "01"))) (eVar 2)))
  (sSet 1 (eNew (nLc2 (iOf (eVar 1)) (gN 4) (fun e => R.ok true e) (iOf (eVar 3)) (gN 5) (fun e => R.ok true e) (eOp dAdd (eVar 4) (eVar 5)) [4, 5] [5])))))
  (sRet (eCall dTuple (aCons (eVar 1) aNil)))))
theorem b_corners_of {K : Frag} {mg : Str → Option Value} {a : Nat → Addr} {fd : Nat → FuncData} (T : Tx K mg a fd) : Binds K (fd 0) ["face"] [] := T.f_corners_of.binds (ps := ["face"]) fun _ _ _ _ _ _ us hl => match us, hl with | [_], _ => rfl
def run_corners_of : List Sl → RF := runF 6 0 (body_corners_of)
theorem ok_corners_of {P : Program} {w : World} {K : Frag} {mg : Str → Option Value} {base : Heap} {a : Nat → Addr} {fd : Nat → FuncData} (T : Tx K mg a fd) : FnOk P w K mg base CX0 1 (a 0) (fd 0) ["face"] (spF K mg 1 0 fun x => (run_corners_of x).nox) :=
  fn_ok (N := ["face", "begun", "sign", "choices", "start", "choice"]) (b := (body_corners_of)) T.f_corners_of sc_corners_of fun cdv A outer s H E hr =>
  (sb_cons (ss_set (i := 1) sc_corners_of.nd rfl (by first | exact Or.inl rfl | exact Or.inr rfl) (se_lst (sa_cons se_str sa_nil)))
  (sb_cons (ss_for PassesOwn.never rfl (si_dat (se_var (pv 0))) (sg_name (i := 2) sc_corners_of.nd rfl (by first | exact Or.inl rfl | exact Or.inr rfl)) (sb_cons (ss_set (i := 3) sc_corners_of.nd rfl (by first | exact Or.inl rfl | exact Or.inr rfl) (se_if (st_eq hr.units (se_var (pv 2)) se_str) se_str (se_var (pv 2))))
  (sb_one (ss_setLc2 (i := 1) (own := [("start", 4), ("choice", 5)]) rfl sc_corners_of.nd rfl rfl (sw_true rfl rfl rfl (by decide +kernel)) (si_dat (se_var (pv 1))) (blkOk_by (N := ["face", "begun", "sign", "choices", "start", "choice"]) (own := [("start", 4), ("choice", 5)]) (sc := (defScope s_corners_of)) (by decide +kernel)) (vs1 := [5]) (by simp) (by simp) (by simp) (fun _ _ _ _ _ => (sg_name (i := 4) sc_corners_of.nd rfl (by first | exact Or.inl rfl | exact Or.inr rfl))) (fun _ _ _ _ _ => sts_nil) (fun _ _ _ _ _ => (si_dat (se_var (pv 3)))) (fun _ _ _ _ _ => (sg_name (i := 5) sc_corners_of.nd rfl (by first | exact Or.inl rfl | exact Or.inr rfl))) (fun _ _ _ _ _ => sts_nil) (fun _ _ _ _ _ => (se_add (se_var (pv 4)) (se_var (pv 5))))))))
  (sb_one (ss_ret (se_tuple (by rfl) T.z_tuple (sa_cons (se_var (pv 1)) sa_nil))))))
/-! ### read_set -/
theorem sc_read_set : FnScope ["text", "place", "sign", "length", "bits", "whole", "corner", "mark"] ["text"] (defScope s_read_set) := ⟨rfl, rfl, rfl, by decide +kernel, rfl, by decide +kernel, by decide +kernel⟩
def body_read_set (c_corners_of : List Sl → RF) : XS :=
  (sSeq (sFor (iArgs gEnum (aCons (eVar 0) aNil)) (gT 2 (gsCons (gN 1) (gsCons (gN 2) gsNil))) (sIf (tAnd (tOf (eOp dNe (eVar 2) (eC (.str (Str.ofString "0"))))) (tOf (eOp dNe (eVar 2) (eC (.str (Str.ofString "1")))))) (sRaiseM (mMkF "NoSet" "place" (eVar 1))) sNx))
  (sSeq (sSet 3 (eCall dLen (aCons (eVar 0) aNil)))
  (sSeq (sIf (tOf (eOp dNin (eVar 3) (eC (.tuple [.int 2, .int 4, .int 8, .int 16, .int 32, .int 64])))) (sRaiseM (mMkF "NoSet" "place" (eVar 3))) sNx)
  (sSeq (sSet 4 (eOp dSub (eBits (eVar 3)) (eC (.int 1))))
  (sSeq (sSet 5 (eFn 1 0 c_corners_of (rCons (eOp dMulS (eC (.str (Str.ofString "*"))) (eVar 4)) rNil)))
  (sRet (eCall gTup (aCons (eVar 4) (aCons (eCall dTuple (aCons (eNew (nLc (iArgs gZip (aCons (eVar 5) (aCons (eVar 0) aNil))) (gT 2 (gsCons (gN 6) (gsCons (gN 7) gsNil))) (tOf (eOp dEq (eVar 7) (eC (.str (Str.ofString "1"))))) (eVar 6) [6, 7])) aNil)) aNil)))))))))
theorem b_read_set {K : Frag} {mg : Str → Option Value} {a : Nat → Addr} {fd : Nat → FuncData} (T : Tx K mg a fd) : Binds K (fd 1) ["text"] [] := T.f_read_set.binds (ps := ["text"]) fun _ _ _ _ _ _ us hl => match us, hl with | [_], _ => rfl
def run_read_set : List Sl → RF := runF 8 0 (body_read_set (fun a => (run_corners_of a).nox))
theorem ok_read_set {P : Program} {w : World} {K : Frag} {mg : Str → Option Value} {base : Heap} {a : Nat → Addr} {fd : Nat → FuncData} (T : Tx K mg a fd) : FnOk P w K mg base (L2.CX P w) 3 (a 1) (fd 1) ["text"] (spF K mg 1 0 fun x => run_read_set x) :=
  fn_okX (N := ["text", "place", "sign", "length", "bits", "whole", "corner", "mark"]) (b := (body_read_set (fun a => (run_corners_of a).nox))) T.f_read_set sc_read_set fun cdv A outer s H E hr =>
  (sb_cons (ss_for (passes_of rfl) rfl (si_enum (by rfl) T.z_enumerate (sa_cons (se_var (pv 0)) sa_nil)) (sg_tup rfl (sgs_cons (sg_name (i := 1) sc_read_set.nd rfl (by first | exact Or.inl rfl | exact Or.inr rfl)) (sgs_cons (sg_name (i := 2) sc_read_set.nd rfl (by first | exact Or.inl rfl | exact Or.inr rfl)) sgs_nil))) (sb_one (ss_if (st_bool (sw_and (st_ne hr.units (se_var (pv 2)) se_str) (sw_and1 (st_ne hr.units (se_var (pv 2)) se_str)))) (sb_one (ss_raiseM rfl (takes_of rfl rfl rfl rfl) (sm_oex T.n_NoSet T.o_NoSet T.oi_NoSet T.ot_NoSet (ok_init_NoSet T) (hr.mono (by decide)) (b_init_NoSet T) (by rfl) T.g_NoSet (se_var (pv 1))))) sb_nil)))
  (sb_cons (ss_set (i := 3) sc_read_set.nd rfl (by first | exact Or.inl rfl | exact Or.inr rfl) (se_len (by rfl) T.z_len (sa_cons (se_var (pv 0)) sa_nil)))
  (sb_cons (ss_if (st_nin (se_var (pv 3)) (se_kt (by rfl) T.k_SET_LENGTHS.choose_spec.1 T.k_SET_LENGTHS.choose_spec.2)) (sb_one (ss_raiseM rfl (takes_of rfl rfl rfl rfl) (sm_oex T.n_NoSet T.o_NoSet T.oi_NoSet T.ot_NoSet (ok_init_NoSet T) (hr.mono (by decide)) (b_init_NoSet T) (by rfl) T.g_NoSet (se_var (pv 3))))) sb_nil)
  (sb_cons (ss_set (i := 4) sc_read_set.nd rfl (by first | exact Or.inl rfl | exact Or.inr rfl) (se_sub (se_bits (se_var (pv 3))) se_int))
  (sb_cons (ss_set (i := 5) sc_read_set.nd rfl (by first | exact Or.inl rfl | exact Or.inr rfl) (se_fn (ok_corners_of T) (hr.mono (by decide)) (by rfl) T.g_corners_of T.f_corners_of.kp (b_corners_of T) (sr_cons (se_mulS se_str (se_var (pv 4))) sr_nil)))
  (sb_one (ss_ret (se_tup (sa_cons (se_var (pv 4)) (sa_cons (se_tuple (by rfl) T.z_tuple (sa_cons (se_new (sn_lc (own := [("corner", 6), ("mark", 7)]) rfl sc_read_set.nd (si_zip (by rfl) T.z_zip (sa_cons (se_var (pv 5)) (sa_cons (se_var (pv 0)) sa_nil))) (blkOk_by (N := ["text", "place", "sign", "length", "bits", "whole", "corner", "mark"]) (own := [("corner", 6), ("mark", 7)]) (sc := (defScope s_read_set)) (by decide +kernel)) (by simp) (fun _ _ _ _ _ => (sg_tup rfl (sgs_cons (sg_name (i := 6) sc_read_set.nd rfl (by first | exact Or.inl rfl | exact Or.inr rfl)) (sgs_cons (sg_name (i := 7) sc_read_set.nd rfl (by first | exact Or.inl rfl | exact Or.inr rfl)) sgs_nil)))) (fun _ _ _ _ _ => (sts_one (st_eq hr.units (se_var (pv 7)) se_str))) (fun _ _ _ _ _ => (se_var (pv 6))))) sa_nil)) sa_nil))))))))))
/-! ### _law_mix -/
theorem sc__law_mix : FnScope ["cell", "k", "number"] ["cell", "k"] (defScope s__law_mix) := ⟨rfl, rfl, rfl, by decide +kernel, rfl, by decide +kernel, by decide +kernel⟩
def body__law_mix : XS :=
  (sSeq (sSet 2 (eOp dAdd (eOp dMod (eVar 0) (eC (.int 2147483629))) (eOp dMul (eOp dMul (eC (.int 1000003)) (eVar 1)) (eVar 1))))
  (sSeq (sSet 2 (eOp dMod (eOp dAdd (eVar 2) (eOp dMul (eC (.int 7919)) (eVar 1))) (eC (.int 2147483629))))
  (sSeq (sSet 2 (eOp dMod (eOp dMul (eVar 2) (eVar 2)) (eC (.int 2147483587))))
  (sRet (eOp dDiv (eOp dMod (eOp dMul (eVar 2) (eOp dAdd (eVar 2) (eC (.int 40961)))) (eC (.int 2147483563))) (eC (.int 4)))))))
theorem b__law_mix {K : Frag} {mg : Str → Option Value} {a : Nat → Addr} {fd : Nat → FuncData} (T : Tx K mg a fd) : Binds K (fd 2) ["cell", "k"] [] := T.f__law_mix.binds (ps := ["cell", "k"]) fun _ _ _ _ _ _ us hl => match us, hl with | [_, _], _ => rfl
def run__law_mix : List Sl → RF := runF 3 0 (body__law_mix)
theorem ok__law_mix {P : Program} {w : World} {K : Frag} {mg : Str → Option Value} {base : Heap} {a : Nat → Addr} {fd : Nat → FuncData} (T : Tx K mg a fd) : FnOk P w K mg base CX0 1 (a 2) (fd 2) ["cell", "k"] (spF K mg 2 0 fun x => (run__law_mix x).nox) :=
  fn_ok (N := ["cell", "k", "number"]) (b := (body__law_mix)) T.f__law_mix sc__law_mix fun cdv A outer s H E hr =>
  (sb_cons (ss_set (i := 2) sc__law_mix.nd rfl (by first | exact Or.inl rfl | exact Or.inr rfl) (se_add (se_mod (se_var (pv 0)) se_int) (se_mul (se_mul se_int (se_var (pv 1))) (se_var (pv 1)))))
  (sb_cons (ss_set (i := 2) sc__law_mix.nd rfl (by first | exact Or.inl rfl | exact Or.inr rfl) (se_mod (se_add (se_var (pv 2)) (se_mul se_int (se_var (pv 1)))) se_int))
  (sb_cons (ss_set (i := 2) sc__law_mix.nd rfl (by first | exact Or.inl rfl | exact Or.inr rfl) (se_mod (se_mul (se_var (pv 2)) (se_var (pv 2))) se_int))
  (sb_one (ss_ret (se_div (se_mod (se_mul (se_var (pv 2)) (se_add (se_var (pv 2)) se_int)) se_int) se_int))))))
/-! ### _law_deck -/
theorem sc__law_deck : FnScope ["script"] ["script"] (defScope s__law_deck) := ⟨rfl, rfl, rfl, by decide +kernel, rfl, by decide +kernel, by decide +kernel⟩
def body__law_deck : XS :=
  (sRetN (nLst (aCons (eNew (nSlScr 0 oNone (oSome (eC (.int 63))))) (aCons (eC (.int 0)) (aCons (eC (.int 0)) (aCons (eC (.int 0)) (aCons (eCall dSum (aCons (eNew (nSlScr 0 oNone (oSome (eC (.int 63))))) aNil)) aNil)))))))
theorem b__law_deck {K : Frag} {mg : Str → Option Value} {a : Nat → Addr} {fd : Nat → FuncData} (T : Tx K mg a fd) : Binds K (fd 3) ["script"] [] := T.f__law_deck.binds (ps := ["script"]) fun _ _ _ _ _ _ us hl => match us, hl with | [_], _ => rfl
def run__law_deck : List Sl → RF := runF 1 0 (body__law_deck)
theorem ok__law_deck {P : Program} {w : World} {K : Frag} {mg : Str → Option Value} {base : Heap} {a : Nat → Addr} {fd : Nat → FuncData} (T : Tx K mg a fd) : FnOk P w K mg base CX0 1 (a 3) (fd 3) ["script"] (spF K mg 1 0 fun x => (run__law_deck x).nox) :=
  fn_ok (N := ["script"]) (b := (body__law_deck)) T.f__law_deck sc__law_deck fun cdv A outer s H E hr =>
  (sb_one (ss_retNew (sn_lst (sa_cons (se_new (sn_slScr (pv 0) so_none (so_some se_int))) (sa_cons se_int (sa_cons se_int (sa_cons se_int (sa_cons (se_sum rfl (by rfl) T.z_sum (sa_cons (se_new (sn_slScr (pv 0) so_none (so_some se_int))) sa_nil)) sa_nil))))))))
/-! ### _law_next -/
theorem sc__law_next : FnScope ["deck", "many", "cell", "found"] ["deck", "many"] (defScope s__law_next) := ⟨rfl, rfl, rfl, by decide +kernel, rfl, by decide +kernel, by decide +kernel⟩
def body__law_next (c__law_mix : List Sl → RF) : XS :=
  (sSeq (sIf (tAnd (tOf (eOp dEq (eIxOwn 0 (eC (.int 2))) (eC (.int 0)))) (tOf (eOp dLt (eIxOwn 0 (eC (.int 1))) (eCall dLen (aCons (eIxOwn 0 (eC (.int 0))) aNil))))) (sSeq (sSet 2 (eOp dIx (eIxOwn 0 (eC (.int 0))) (eIxOwn 0 (eC (.int 1)))))
  (sSeq (sSetIx 0 (eC (.int 1)) (eOp dAdd (eIxOwn 0 (eC (.int 1))) (eC (.int 1))))
  (sSeq (sIf (tOf (eOp dLt (eVar 2) (eOp dPow (eC (.int 10)) (eC (.int 18))))) (sRet (eOp dMod (eFn 2 0 c__law_mix (rCons (eVar 2) (rCons (eIxOwn 0 (eC (.int 1))) rNil))) (eVar 1))) sNx)
  (sSetIx 0 (eC (.int 2)) (eVar 2))))) sNx)
  (sSeq (sIf (tOf (eOp dGt (eIxOwn 0 (eC (.int 2))) (eC (.int 0)))) (sSeq (sSet 3 (eOp dMod (eIxOwn 0 (eC (.int 2))) (eVar 1)))
  (sSeq (sSetIx 0 (eC (.int 2)) (eOp dDiv (eIxOwn 0 (eC (.int 2))) (eVar 1)))
  (sRet (eVar 3)))) sNx)
  (sSeq (sSetIx 0 (eC (.int 3)) (eOp dAdd (eIxOwn 0 (eC (.int 3))) (eC (.int 1))))
  (sRet (eOp dMod (eFn 2 0 c__law_mix (rCons (eIxOwn 0 (eC (.int 4))) (rCons (eOp dAdd (eIxOwn 0 (eC (.int 3))) (eC (.int 1051))) rNil))) (eVar 1))))))
theorem b__law_next {K : Frag} {mg : Str → Option Value} {a : Nat → Addr} {fd : Nat → FuncData} (T : Tx K mg a fd) : Binds K (fd 4) ["deck", "many"] [] := T.f__law_next.binds (ps := ["deck", "many"]) fun _ _ _ _ _ _ us hl => match us, hl with | [_, _], _ => rfl
def run__law_next : List Sl → RF := runF 4 1 (body__law_next (fun a => (run__law_mix a).nox))
theorem ok__law_next {P : Program} {w : World} {K : Frag} {mg : Str → Option Value} {base : Heap} {a : Nat → Addr} {fd : Nat → FuncData} (T : Tx K mg a fd) : FnOk P w K mg base CX0 2 (a 4) (fd 4) ["deck", "many"] (spF K mg 2 1 fun x => (run__law_next x).nox) :=
  fn_ok (N := ["deck", "many", "cell", "found"]) (b := (body__law_next (fun a => (run__law_mix a).nox))) T.f__law_next sc__law_next fun cdv A outer s H E hr =>
  (sb_cons (ss_if (st_bool (sw_and (st_eq hr.units (se_ixOwn (pv 0) se_int (fun _ _ => rfl)) se_int) (sw_and1 (st_lt (se_ixOwn (pv 0) se_int (fun _ _ => rfl)) (se_len (by rfl) T.z_len (sa_cons (se_ixOwn (pv 0) se_int (fun _ _ => rfl)) sa_nil)))))) (sb_cons (ss_set (i := 2) sc__law_next.nd rfl (by first | exact Or.inl rfl | exact Or.inr rfl) (se_ixA (se_ixOwn (pv 0) se_int (fun _ _ => rfl)) (se_ixOwn (pv 0) se_int (fun _ _ => rfl)) (fun _ _ => rfl)))
  (sb_cons (ss_setIx (pv 0) se_int (se_add (se_ixOwn (pv 0) se_int (fun _ _ => rfl)) se_int))
  (sb_cons (ss_if (st_lt (se_var (pv 2)) (se_pow se_int se_int)) (sb_one (ss_ret (se_mod (se_fn (ok__law_mix T) (hr.mono (by decide)) (by rfl) T.g__law_mix T.f__law_mix.kp (b__law_mix T) (sr_cons (se_var (pv 2)) (sr_cons (se_ixOwn (pv 0) se_int (fun _ _ => rfl)) sr_nil))) (se_var (pv 1))))) sb_nil)
  (sb_one (ss_setIx (pv 0) se_int (se_var (pv 2))))))) sb_nil)
  (sb_cons (ss_if (st_gt (se_ixOwn (pv 0) se_int (fun _ _ => rfl)) se_int) (sb_cons (ss_set (i := 3) sc__law_next.nd rfl (by first | exact Or.inl rfl | exact Or.inr rfl) (se_mod (se_ixOwn (pv 0) se_int (fun _ _ => rfl)) (se_var (pv 1))))
  (sb_cons (ss_setIx (pv 0) se_int (se_div (se_ixOwn (pv 0) se_int (fun _ _ => rfl)) (se_var (pv 1))))
  (sb_one (ss_ret (se_var (pv 3)))))) sb_nil)
  (sb_cons (ss_setIx (pv 0) se_int (se_add (se_ixOwn (pv 0) se_int (fun _ _ => rfl)) se_int))
  (sb_one (ss_ret (se_mod (se_fn (ok__law_mix T) (hr.mono (by decide)) (by rfl) T.g__law_mix T.f__law_mix.kp (b__law_mix T) (sr_cons (se_ixOwn (pv 0) se_int (fun _ _ => rfl)) (sr_cons (se_add (se_ixOwn (pv 0) se_int (fun _ _ => rfl)) se_int) sr_nil))) (se_var (pv 1))))))))
/-! ### _law_bits -/
theorem sc__law_bits : FnScope ["deck"] ["deck"] (defScope s__law_bits) := ⟨rfl, rfl, rfl, by decide +kernel, rfl, by decide +kernel, by decide +kernel⟩
def body__law_bits (c__law_next : List Sl → RF) : XS :=
  (sRet (eOp dIx (eCall gLst (aCons (eOp dAdd (eC (.int 1)) (eFn 2 1 c__law_next (rIo 0 (rCons (eC (.int 6)) rNil)))) (aCons (eC (.int 6)) (aCons (eOp dAdd (eC (.int 1)) (eFn 2 1 c__law_next (rIo 0 (rCons (eC (.int 3)) rNil)))) aNil)))) (eFn 2 1 c__law_next (rIo 0 (rCons (eC (.int 3)) rNil)))))
theorem b__law_bits {K : Frag} {mg : Str → Option Value} {a : Nat → Addr} {fd : Nat → FuncData} (T : Tx K mg a fd) : Binds K (fd 5) ["deck"] [] := T.f__law_bits.binds (ps := ["deck"]) fun _ _ _ _ _ _ us hl => match us, hl with | [_], _ => rfl
def run__law_bits : List Sl → RF := runF 1 1 (body__law_bits (fun a => (run__law_next a).nox))
theorem ok__law_bits {P : Program} {w : World} {K : Frag} {mg : Str → Option Value} {base : Heap} {a : Nat → Addr} {fd : Nat → FuncData} (T : Tx K mg a fd) : FnOk P w K mg base CX0 3 (a 5) (fd 5) ["deck"] (spF K mg 1 1 fun x => (run__law_bits x).nox) :=
  fn_ok (N := ["deck"]) (b := (body__law_bits (fun a => (run__law_next a).nox))) T.f__law_bits sc__law_bits fun cdv A outer s H E hr =>
  (sb_one (ss_ret (se_ixA (se_lst (sa_cons (se_add se_int (se_fn (ok__law_next T) (hr.mono (by decide)) (by rfl) T.g__law_next T.f__law_next.kp (b__law_next T) (sr_io (pv 0) (sr_cons se_int sr_nil)))) (sa_cons se_int (sa_cons (se_add se_int (se_fn (ok__law_next T) (hr.mono (by decide)) (by rfl) T.g__law_next T.f__law_next.kp (b__law_next T) (sr_io (pv 0) (sr_cons se_int sr_nil)))) sa_nil)))) (se_fn (ok__law_next T) (hr.mono (by decide)) (by rfl) T.g__law_next T.f__law_next.kp (b__law_next T) (sr_io (pv 0) (sr_cons se_int sr_nil))) (fun _ _ => rfl))))
/-! ### _law_face -/
theorem sc__law_face : FnScope ["deck", "bits", "way", "signs", "k"] ["deck", "bits"] (defScope s__law_face) := ⟨rfl, rfl, rfl, by decide +kernel, rfl, by decide +kernel, by decide +kernel⟩
def body__law_face (c__law_next : List Sl → RF) : XS :=
  (sSeq (sSet 2 (eFn 2 1 c__law_next (rIo 0 (rCons (eC (.int 5)) rNil))))
  (sSeq (sSet 3 (eOp dIx (eCall gLst (aCons (eC (.str (Str.ofString "01*"))) (aCons (eC (.str (Str.ofString "01"))) (aCons (eC (.str (Str.ofString "*"))) (aCons (eC (.str (Str.ofString "01010101*"))) (aCons (eC (.str (Str.ofString "01****"))) aNil)))))) (eVar 2)))
  (sRet (eMeth isStr dJoin (eC (.str (Str.ofString ""))) (aCons (eNew (nLc (iArgs rg1 (aCons (eVar 1) aNil)) (gN 4) (fun e => R.ok true e) (eOp dIx (eVar 3) (eFn 2 1 c__law_next (rIo 0 (rCons (eCall dLen (aCons (eVar 3) aNil)) rNil)))) [4])) aNil)))))
theorem b__law_face {K : Frag} {mg : Str → Option Value} {a : Nat → Addr} {fd : Nat → FuncData} (T : Tx K mg a fd) : Binds K (fd 6) ["deck", "bits"] [] := T.f__law_face.binds (ps := ["deck", "bits"]) fun _ _ _ _ _ _ us hl => match us, hl with | [_, _], _ => rfl
def run__law_face : List Sl → RF := runF 5 1 (body__law_face (fun a => (run__law_next a).nox))
theorem ok__law_face {P : Program} {w : World} {K : Frag} {mg : Str → Option Value} {base : Heap} {a : Nat → Addr} {fd : Nat → FuncData} (T : Tx K mg a fd) : FnOk P w K mg base CX0 3 (a 6) (fd 6) ["deck", "bits"] (spF K mg 2 1 fun x => (run__law_face x).nox) :=
  fn_ok (N := ["deck", "bits", "way", "signs", "k"]) (b := (body__law_face (fun a => (run__law_next a).nox))) T.f__law_face sc__law_face fun cdv A outer s H E hr =>
  (sb_cons (ss_set (i := 2) sc__law_face.nd rfl (by first | exact Or.inl rfl | exact Or.inr rfl) (se_fn (ok__law_next T) (hr.mono (by decide)) (by rfl) T.g__law_next T.f__law_next.kp (b__law_next T) (sr_io (pv 0) (sr_cons se_int sr_nil))))
  (sb_cons (ss_set (i := 3) sc__law_face.nd rfl (by first | exact Or.inl rfl | exact Or.inr rfl) (se_ixA (se_lst (sa_cons se_str (sa_cons se_str (sa_cons se_str (sa_cons se_str (sa_cons se_str sa_nil)))))) (se_var (pv 2)) (fun _ _ => rfl)))
  (sb_one (ss_ret (se_join se_str (sa_cons (se_new (sn_lc (own := [("k", 4)]) rfl sc__law_face.nd (si_range1 (by rfl) T.z_range (sa_cons (se_var (pv 1)) sa_nil)) (blkOk_by (N := ["deck", "bits", "way", "signs", "k"]) (own := [("k", 4)]) (sc := (defScope s__law_face)) (by decide +kernel)) (by simp) (fun _ _ _ _ _ => (sg_name (i := 4) sc__law_face.nd rfl (by first | exact Or.inl rfl | exact Or.inr rfl))) (fun _ _ _ _ _ => sts_nil) (fun _ _ _ _ _ => (se_ixA (se_var (pv 3)) (se_fn (ok__law_next T) (hr.mono (by decide)) (by rfl) T.g__law_next T.f__law_next.kp (b__law_next T) (sr_io (pv 0) (sr_cons (se_len (by rfl) T.z_len (sa_cons (se_var (pv 3)) sa_nil)) sr_nil))) (fun _ _ => rfl))))) sa_nil))))))
/-! ### _law_all -/
theorem sc__law_all : FnScope ["bits", "found", "number", "k"] ["bits"] (defScope s__law_all) := ⟨rfl, rfl, rfl, by decide +kernel, rfl, by decide +kernel, by decide +kernel⟩
def body__law_all : XS :=
  (sSeq (sOwn 1 (nLst aNil))
  (sSeq (sFor (iArgs rg1 (aCons (eOp dShl (eC (.int 1)) (eVar 0)) aNil)) (gN 2) (sExpr (eMut 1 mAppend (aCons (eMeth isStr dJoin (eC (.str (Str.ofString ""))) (aCons (eNew (nLc (iArgs rg1 (aCons (eVar 0) aNil)) (gN 3) (fun e => R.ok true e) (eCall dStr (aCons (eOp dAnd (eOp dShr (eVar 2) (eOp dSub (eOp dSub (eVar 0) (eC (.int 1))) (eVar 3))) (eC (.int 1))) aNil)) [3])) aNil)) aNil))))
  (sRet (eVar 1))))
theorem b__law_all {K : Frag} {mg : Str → Option Value} {a : Nat → Addr} {fd : Nat → FuncData} (T : Tx K mg a fd) : Binds K (fd 7) ["bits"] [] := T.f__law_all.binds (ps := ["bits"]) fun _ _ _ _ _ _ us hl => match us, hl with | [_], _ => rfl
def run__law_all : List Sl → RF := runF 4 0 (body__law_all)
theorem ok__law_all {P : Program} {w : World} {K : Frag} {mg : Str → Option Value} {base : Heap} {a : Nat → Addr} {fd : Nat → FuncData} (T : Tx K mg a fd) : FnOk P w K mg base CX0 1 (a 7) (fd 7) ["bits"] (spF K mg 1 0 fun x => (run__law_all x).nox) :=
  fn_ok (N := ["bits", "found", "number", "k"]) (b := (body__law_all)) T.f__law_all sc__law_all fun cdv A outer s H E hr =>
  (sb_cons (ss_own (i := 1) sc__law_all.nd rfl (by first | exact Or.inl rfl | exact Or.inr rfl) (sn_lst sa_nil))
  (sb_cons (ss_for PassesOwn.never rfl (si_range1 (by rfl) T.z_range (sa_cons (se_shl se_int (se_var (pv 0))) sa_nil)) (sg_name (i := 2) sc__law_all.nd rfl (by first | exact Or.inl rfl | exact Or.inr rfl)) (sb_one (ss_expr (se_append (pv 1) (sa_cons (se_join se_str (sa_cons (se_new (sn_lc (own := [("k", 3)]) rfl sc__law_all.nd (si_range1 (by rfl) T.z_range (sa_cons (se_var (pv 0)) sa_nil)) (blkOk_by (N := ["bits", "found", "number", "k"]) (own := [("k", 3)]) (sc := (defScope s__law_all)) (by decide +kernel)) (by simp) (fun _ _ _ _ _ => (sg_name (i := 3) sc__law_all.nd rfl (by first | exact Or.inl rfl | exact Or.inr rfl))) (fun _ _ _ _ _ => sts_nil) (fun _ _ _ _ _ => (se_strC (by rfl) T.z_str (sa_cons (se_bitand (se_shr (se_var (pv 2)) (se_sub (se_sub (se_var (pv 0)) se_int) (se_var (pv 3)))) se_int) sa_nil))))) sa_nil)) sa_nil)))))
  (sb_one (ss_ret (se_var (pv 1))))))
/-! ### _law_lies -/
theorem sc__law_lies : FnScope ["face", "corner", "k"] ["face", "corner"] (defScope s__law_lies) := ⟨rfl, rfl, rfl, by decide +kernel, rfl, by decide +kernel, by decide +kernel⟩
def body__law_lies : XS :=
  (sSeq (sFor (iArgs rg1 (aCons (eCall dLen (aCons (eVar 0) aNil)) aNil)) (gN 2) (sIf (tAnd (tOf (eOp dNe (eOp dIx (eVar 0) (eVar 2)) (eC (.str (Str.ofString "*"))))) (tOf (eOp dNe (eOp dIx (eVar 0) (eVar 2)) (eOp dIx (eVar 1) (eVar 2))))) (sRet (eC (.bool false))) sNx))
  (sRet (eC (.bool true))))
theorem b__law_lies {K : Frag} {mg : Str → Option Value} {a : Nat → Addr} {fd : Nat → FuncData} (T : Tx K mg a fd) : Binds K (fd 8) ["face", "corner"] [] := T.f__law_lies.binds (ps := ["face", "corner"]) fun _ _ _ _ _ _ us hl => match us, hl with | [_, _], _ => rfl
def run__law_lies : List Sl → RF := runF 3 0 (body__law_lies)
theorem ok__law_lies {P : Program} {w : World} {K : Frag} {mg : Str → Option Value} {base : Heap} {a : Nat → Addr} {fd : Nat → FuncData} (T : Tx K mg a fd) : FnOk P w K mg base CX0 1 (a 8) (fd 8) ["face", "corner"] (spF K mg 2 0 fun x => (run__law_lies x).nox) :=
  fn_ok (N := ["face", "corner", "k"]) (b := (body__law_lies)) T.f__law_lies sc__law_lies fun cdv A outer s H E hr =>
  (sb_cons (ss_for PassesOwn.never rfl (si_range1 (by rfl) T.z_range (sa_cons (se_len (by rfl) T.z_len (sa_cons (se_var (pv 0)) sa_nil)) sa_nil)) (sg_name (i := 2) sc__law_lies.nd rfl (by first | exact Or.inl rfl | exact Or.inr rfl)) (sb_one (ss_if (st_bool (sw_and (st_ne hr.units (se_ixA (se_var (pv 0)) (se_var (pv 2)) (fun _ _ => rfl)) se_str) (sw_and1 (st_ne hr.units (se_ixA (se_var (pv 0)) (se_var (pv 2)) (fun _ _ => rfl)) (se_ixA (se_var (pv 1)) (se_var (pv 2)) (fun _ _ => rfl)))))) (sb_one (ss_ret se_bl)) sb_nil)))
  (sb_one (ss_ret se_bl)))
/-! ### _law_set -/
theorem sc__law_set : FnScope ["deck", "bits", "every", "way", "often", "found", "faces", "corner", "k", "face"] ["deck", "bits"] (defScope s__law_set) := ⟨rfl, rfl, rfl, by decide +kernel, rfl, by decide +kernel, by decide +kernel⟩
def body__law_set (c__law_next : List Sl → RF) (c__law_face : List Sl → RF) (c__law_all : List Sl → RF) (c__law_lies : List Sl → RF) : XS :=
  (sSeq (sSet 2 (eFn 1 0 c__law_all (rCons (eVar 1) rNil)))
  (sSeq (sSet 3 (eFn 2 1 c__law_next (rIo 0 (rCons (eC (.int 8)) rNil))))
  (sSeq (sSet 4 (eOp dIx (eCall gLst (aCons (eC (.int 1)) (aCons (eOp dPow (eC (.int 10)) (eC (.int 6))) (aCons (eOp dPow (eC (.int 10)) (eC (.int 6))) (aCons (eC (.int 2)) (aCons (eC (.int 8)) (aCons (eC (.int 2)) (aCons (eC (.int 3)) (aCons (eC (.int 4)) aNil))))))))) (eVar 3)))
  (sSeq (sSet 5 (eNew (nLc (iOf (eVar 2)) (gN 7) (tOf (eOp dEq (eFn 2 1 c__law_next (rIo 0 (rCons (eVar 4) rNil))) (eC (.int 0)))) (eVar 7) [7])))
  (sSeq (sIf (tOf (eOp dEq (eVar 3) (eC (.int 2)))) (sSet 5 (eCall gLst (aCons (eOp dIx (eVar 2) (eFn 2 1 c__law_next (rIo 0 (rCons (eCall dLen (aCons (eVar 2) aNil)) rNil)))) aNil))) sNx)
  (sSeq (sIf (tOf (eOp dEq (eVar 3) (eC (.int 4)))) (sSet 5 (eNew (nLc (iOf (eVar 2)) (gN 7) (tOf (eOp dNin (eVar 7) (eVar 5))) (eVar 7) [7]))) sNx)
  (sSeq (sIf (tOf (eOp dGt (eVar 3) (eC (.int 5)))) (sSeq (sSet 6 (eNew (nLc (iArgs rg1 (aCons (eOp dAdd (eC (.int 1)) (eFn 2 1 c__law_next (rIo 0 (rCons (eC (.int 4)) rNil)))) aNil)) (gN 8) (fun e => R.ok true e) (eFn 2 1 c__law_face (rIo 0 (rCons (eVar 1) rNil))) [8])))
  (sSet 5 (eNew (nLc (iOf (eVar 2)) (gN 7) (tOf (eOp dNe (eNew (nLc (iOf (eVar 6)) (gN 9) (tOf (eFn 2 0 c__law_lies (rCons (eVar 9) (rCons (eVar 7) rNil)))) (eVar 9) [9])) (eCall gLst aNil))) (eVar 7) [7])))) sNx)
  (sRet (eCall gTup (aCons (eVar 1) (aCons (eCall dTuple (aCons (eVar 5) aNil)) aNil)))))))))))
theorem b__law_set {K : Frag} {mg : Str → Option Value} {a : Nat → Addr} {fd : Nat → FuncData} (T : Tx K mg a fd) : Binds K (fd 9) ["deck", "bits"] [] := T.f__law_set.binds (ps := ["deck", "bits"]) fun _ _ _ _ _ _ us hl => match us, hl with | [_, _], _ => rfl
def run__law_set : List Sl → RF := runF 10 1 (body__law_set (fun a => (run__law_next a).nox) (fun a => (run__law_face a).nox) (fun a => (run__law_all a).nox) (fun a => (run__law_lies a).nox))
theorem ok__law_set {P : Program} {w : World} {K : Frag} {mg : Str → Option Value} {base : Heap} {a : Nat → Addr} {fd : Nat → FuncData} (T : Tx K mg a fd) : FnOk P w K mg base CX0 4 (a 9) (fd 9) ["deck", "bits"] (spF K mg 2 1 fun x => (run__law_set x).nox) :=
  fn_ok (N := ["deck", "bits", "every", "way", "often", "found", "faces", "corner", "k", "face"]) (b := (body__law_set (fun a => (run__law_next a).nox) (fun a => (run__law_face a).nox) (fun a => (run__law_all a).nox) (fun a => (run__law_lies a).nox))) T.f__law_set sc__law_set fun cdv A outer s H E hr =>
  (sb_cons (ss_set (i := 2) sc__law_set.nd rfl (by first | exact Or.inl rfl | exact Or.inr rfl) (se_fn (ok__law_all T) (hr.mono (by decide)) (by rfl) T.g__law_all T.f__law_all.kp (b__law_all T) (sr_cons (se_var (pv 1)) sr_nil)))
  (sb_cons (ss_set (i := 3) sc__law_set.nd rfl (by first | exact Or.inl rfl | exact Or.inr rfl) (se_fn (ok__law_next T) (hr.mono (by decide)) (by rfl) T.g__law_next T.f__law_next.kp (b__law_next T) (sr_io (pv 0) (sr_cons se_int sr_nil))))
  (sb_cons (ss_set (i := 4) sc__law_set.nd rfl (by first | exact Or.inl rfl | exact Or.inr rfl) (se_ixA (se_lst (sa_cons se_int (sa_cons (se_pow se_int se_int) (sa_cons (se_pow se_int se_int) (sa_cons se_int (sa_cons se_int (sa_cons se_int (sa_cons se_int (sa_cons se_int sa_nil))))))))) (se_var (pv 3)) (fun _ _ => rfl)))
  (sb_cons (ss_set (i := 5) sc__law_set.nd rfl (by first | exact Or.inl rfl | exact Or.inr rfl) (se_new (sn_lc (own := [("corner", 7)]) rfl sc__law_set.nd (si_dat (se_var (pv 2))) (blkOk_by (N := ["deck", "bits", "every", "way", "often", "found", "faces", "corner", "k", "face"]) (own := [("corner", 7)]) (sc := (defScope s__law_set)) (by decide +kernel)) (by simp) (fun _ _ _ _ _ => (sg_name (i := 7) sc__law_set.nd rfl (by first | exact Or.inl rfl | exact Or.inr rfl))) (fun _ _ _ _ _ => (sts_one (st_eq hr.units (se_fn (ok__law_next T) (hr.mono (by decide)) (by rfl) T.g__law_next T.f__law_next.kp (b__law_next T) (sr_io (pv 0) (sr_cons (se_var (pv 4)) sr_nil))) se_int))) (fun _ _ _ _ _ => (se_var (pv 7))))))
  (sb_cons (ss_if (st_eq hr.units (se_var (pv 3)) se_int) (sb_one (ss_set (i := 5) sc__law_set.nd rfl (by first | exact Or.inl rfl | exact Or.inr rfl) (se_lst (sa_cons (se_ixA (se_var (pv 2)) (se_fn (ok__law_next T) (hr.mono (by decide)) (by rfl) T.g__law_next T.f__law_next.kp (b__law_next T) (sr_io (pv 0) (sr_cons (se_len (by rfl) T.z_len (sa_cons (se_var (pv 2)) sa_nil)) sr_nil))) (fun _ _ => rfl)) sa_nil)))) sb_nil)
  (sb_cons (ss_if (st_eq hr.units (se_var (pv 3)) se_int) (sb_one (ss_set (i := 5) sc__law_set.nd rfl (by first | exact Or.inl rfl | exact Or.inr rfl) (se_new (sn_lc (own := [("corner", 7)]) rfl sc__law_set.nd (si_dat (se_var (pv 2))) (blkOk_by (N := ["deck", "bits", "every", "way", "often", "found", "faces", "corner", "k", "face"]) (own := [("corner", 7)]) (sc := (defScope s__law_set)) (by decide +kernel)) (by simp) (fun _ _ _ _ _ => (sg_name (i := 7) sc__law_set.nd rfl (by first | exact Or.inl rfl | exact Or.inr rfl))) (fun _ _ _ _ _ => (sts_one (st_nin (se_var (pv 7)) (se_var (pv 5))))) (fun _ _ _ _ _ => (se_var (pv 7))))))) sb_nil)
  (sb_cons (ss_if (st_gt (se_var (pv 3)) se_int) (sb_cons (ss_set (i := 6) sc__law_set.nd rfl (by first | exact Or.inl rfl | exact Or.inr rfl) (se_new (sn_lc (own := [("k", 8)]) rfl sc__law_set.nd (si_range1 (by rfl) T.z_range (sa_cons (se_add se_int (se_fn (ok__law_next T) (hr.mono (by decide)) (by rfl) T.g__law_next T.f__law_next.kp (b__law_next T) (sr_io (pv 0) (sr_cons se_int sr_nil)))) sa_nil)) (blkOk_by (N := ["deck", "bits", "every", "way", "often", "found", "faces", "corner", "k", "face"]) (own := [("k", 8)]) (sc := (defScope s__law_set)) (by decide +kernel)) (by simp) (fun _ _ _ _ _ => (sg_name (i := 8) sc__law_set.nd rfl (by first | exact Or.inl rfl | exact Or.inr rfl))) (fun _ _ _ _ _ => sts_nil) (fun _ _ _ _ _ => (se_fn (ok__law_face T) (hr.mono (by decide)) (by rfl) T.g__law_face T.f__law_face.kp (b__law_face T) (sr_io (pv 0) (sr_cons (se_var (pv 1)) sr_nil)))))))
  (sb_one (ss_set (i := 5) sc__law_set.nd rfl (by first | exact Or.inl rfl | exact Or.inr rfl) (se_new (sn_lc (own := [("corner", 7)]) rfl sc__law_set.nd (si_dat (se_var (pv 2))) (blkOk_by (N := ["deck", "bits", "every", "way", "often", "found", "faces", "corner", "k", "face"]) (own := [("corner", 7)]) (sc := (defScope s__law_set)) (by decide +kernel)) (by simp) (fun _ _ _ _ _ => (sg_name (i := 7) sc__law_set.nd rfl (by first | exact Or.inl rfl | exact Or.inr rfl))) (fun _ _ _ _ _ => (sts_one (st_ne hr.units (se_new (sn_lc (own := [("face", 9)]) rfl sc__law_set.nd (si_dat (se_var (pv 6))) (blkOk_in (N := ["deck", "bits", "every", "way", "often", "found", "faces", "corner", "k", "face"]) (own := [("face", 9)]) (outer := (defScope s__law_set)) (by decide +kernel)) (by simp) (fun _ _ _ _ _ => (sg_name (i := 9) sc__law_set.nd rfl (by first | exact Or.inl rfl | exact Or.inr rfl))) (fun _ _ _ _ _ => (sts_one (st_val (se_fn (ok__law_lies T) (hr.mono (by decide)) (by rfl) T.g__law_lies T.f__law_lies.kp (b__law_lies T) (sr_cons (se_var (pv 9)) (sr_cons (se_var (pv 7)) sr_nil)))))) (fun _ _ _ _ _ => (se_var (pv 9))))) (se_lst sa_nil)))) (fun _ _ _ _ _ => (se_var (pv 7)))))))) sb_nil)
  (sb_one (ss_ret (se_tup (sa_cons (se_var (pv 1)) (sa_cons (se_tuple (by rfl) T.z_tuple (sa_cons (se_var (pv 5)) sa_nil)) sa_nil))))))))))))
/-! ### _law_kind -/
theorem sc__law_kind : FnScope ["caught", "kinds"] ["caught"] (defScope s__law_kind) := ⟨rfl, rfl, rfl, by decide +kernel, rfl, by decide +kernel, by decide +kernel⟩
def body__law_kind : XS :=
  (sSeq (sSet 1 (eCall gLst (aCons (eIsX 0 (tblL [("NoSet", false), ("NoCorner", false)])) (aCons (eIsX 0 (tblL [("NoSet", false), ("NoCorner", true)])) (aCons (eIsX 0 (tblL [("NoSet", false), ("NoCorner", false)])) aNil)))))
  (sSeq (sSet 1 (eOp dAdd (eVar 1) (eCall gLst (aCons (eIsX 0 (tblL [("NoSet", true), ("NoCorner", false)])) aNil))))
  (sSeq (sIf (tOr (tNot (tOf (eIsX 0 (tblL [("NoSet", true), ("NoCorner", true)])))) (tOr (tNot (tOf (eIsX 0 (tblL [("NoSet", true), ("NoCorner", true)])))) (tOf (eOp dNe (eMeth isLst dCntD (eVar 1) (aCons (eC (.bool true)) aNil)) (eC (.int 1)))))) (sRet (eCall gTup (aCons (eC (.str (Str.ofString "other"))) aNil))) sNx)
  (sSeq (sIf (tOf (eOp dIx (eVar 1) (eC (.int 1)))) (sRet (eCall gTup (aCons (eC (.str (Str.ofString "corner"))) (aCons (eXf 0 ["NoCorner"] "corner") aNil)))) sNx)
  (sSeq (sIf (tOf (eOp dIx (eVar 1) (eC (.int 3)))) (sSeq (sIf (tOf (eIsi "bool" (eXf 0 ["NoSet"] "place"))) (sRet (eCall gTup (aCons (eC (.str (Str.ofString "other"))) aNil))) sNx)
  (sRet (eCall gTup (aCons (eC (.str (Str.ofString "set"))) (aCons (eXf 0 ["NoSet"] "place") aNil))))) sNx)
  (sRet (eCall gTup (aCons (eOp dIx (eCall gLst (aCons (eC (.str (Str.ofString "ask"))) (aCons (eC (.str (Str.ofString ""))) (aCons (eC (.str (Str.ofString "parting"))) aNil)))) (eMeth isLst dIdxD (eVar 1) (aCons (eC (.bool true)) aNil))) aNil))))))))
theorem b__law_kind {K : Frag} {mg : Str → Option Value} {a : Nat → Addr} {fd : Nat → FuncData} (T : Tx K mg a fd) : Binds K (fd 10) ["caught"] [] := T.f__law_kind.binds (ps := ["caught"]) fun _ _ _ _ _ _ us hl => match us, hl with | [_], _ => rfl
def run__law_kind : List Sl → RF := runF 2 0 (body__law_kind)
theorem ok__law_kind {P : Program} {w : World} {K : Frag} {mg : Str → Option Value} {base : Heap} {a : Nat → Addr} {fd : Nat → FuncData} (T : Tx K mg a fd) : FnOk P w K mg base CX0 1 (a 10) (fd 10) ["caught"] (spF K mg 1 0 fun x => (run__law_kind x).nox) :=
  fn_ok (N := ["caught", "kinds"]) (b := (body__law_kind)) T.f__law_kind sc__law_kind fun cdv A outer s H E hr =>
  (sb_cons (ss_set (i := 1) sc__law_kind.nd rfl (by first | exact Or.inl rfl | exact Or.inr rfl) (se_lst (sa_cons (se_isX (c := .ref (a 20)) T.i_NoAsk (fun _ z => z) (by rfl) T.z_isinstance (pv 0) (pe_glob (v := .ref (a 20)) (by rfl) T.g_NoAsk rfl)) (sa_cons (se_isX (c := .ref (a 22)) T.i_NoCorner (fun _ z => z) (by rfl) T.z_isinstance (pv 0) (pe_glob (v := .ref (a 22)) (by rfl) T.g_NoCorner rfl)) (sa_cons (se_isX (c := .ref (a 19)) T.i_NoParting (fun _ z => z) (by rfl) T.z_isinstance (pv 0) (pe_glob (v := .ref (a 19)) (by rfl) T.g_NoParting rfl)) sa_nil)))))
  (sb_cons (ss_set (i := 1) sc__law_kind.nd rfl (by first | exact Or.inl rfl | exact Or.inr rfl) (se_add (se_var (pv 1)) (se_lst (sa_cons (se_isX (c := .ref (a 21)) T.i_NoSet (fun _ z => z) (by rfl) T.z_isinstance (pv 0) (pe_glob (v := .ref (a 21)) (by rfl) T.g_NoSet rfl)) sa_nil))))
  (sb_cons (ss_if (st_bool (sw_or (pt_not' (st_val (se_isX (c := .ref (a 18)) T.i_FaceError (fun _ z => z) (by rfl) T.z_isinstance (pv 0) (pe_glob (v := .ref (a 18)) (by rfl) T.g_FaceError rfl)))) (sw_or (pt_not' (st_val (se_isX (c := .ty "ValueError") T.i_ValueError (fun _ z => z) (by rfl) T.z_isinstance (pv 0) (pe_bltn (by rfl) T.z_ValueError (by decide +kernel) rfl)))) (sw_or1 (st_ne hr.units (se_cntD (roomU hr) (se_var (pv 1)) (sa_cons se_bl sa_nil)) se_int))))) (sb_one (ss_ret (se_tup (sa_cons se_str sa_nil)))) sb_nil)
  (sb_cons (ss_if (st_val (se_ixA (se_var (pv 1)) se_int (fun _ _ => rfl))) (sb_one (ss_ret (se_tup (sa_cons se_str (sa_cons (se_xf T.a_corner (pv 0)) sa_nil))))) sb_nil)
  (sb_cons (ss_if (st_val (se_ixA (se_var (pv 1)) se_int (fun _ _ => rfl))) (sb_cons (ss_if (st_val (se_isi (by rfl) T.z_isinstance (se_xf T.a_place (pv 0)) (pe_bltn (by rfl) T.z_bool (by decide +kernel) rfl))) (sb_one (ss_ret (se_tup (sa_cons se_str sa_nil)))) sb_nil)
  (sb_one (ss_ret (se_tup (sa_cons se_str (sa_cons (se_xf T.a_place (pv 0)) sa_nil)))))) sb_nil)
  (sb_one (ss_ret (se_tup (sa_cons (se_ixA (se_lst (sa_cons se_str (sa_cons se_str (sa_cons se_str sa_nil)))) (se_idxD (roomU hr) (se_var (pv 1)) (sa_cons se_bl sa_nil)) (fun _ _ => rfl)) sa_nil)))))))))
/-! ### _law_sign -/
theorem sc__law_sign : FnScope ["deck", "signs"] ["deck"] (defScope s__law_sign) := ⟨rfl, rfl, rfl, by decide +kernel, rfl, by decide +kernel, by decide +kernel⟩
def body__law_sign (c__law_next : List Sl → RF) : XS :=
  (sSeq (sSet 1 (eC (.str (Str.ofString " !\"#$&'()*+,-./0123456789:;<=>?@ABCDEFGHIJKLMNOPQRSTUVWXYZ[\\]^_`abcdefghijklmnopqrstuvwxyz{|}~\n"))))
  (sRet (eOp dIx (eCall gLst (aCons (eOp dIx (eVar 1) (eFn 2 1 c__law_next (rIo 0 (rCons (eCall dLen (aCons (eVar 1) aNil)) rNil)))) (aCons (eOp dIx (eC (.str (Str.ofString "01*"))) (eFn 2 1 c__law_next (rIo 0 (rCons (eC (.int 3)) rNil)))) aNil))) (eFn 2 1 c__law_next (rIo 0 (rCons (eC (.int 2)) rNil))))))
theorem b__law_sign {K : Frag} {mg : Str → Option Value} {a : Nat → Addr} {fd : Nat → FuncData} (T : Tx K mg a fd) : Binds K (fd 11) ["deck"] [] := T.f__law_sign.binds (ps := ["deck"]) fun _ _ _ _ _ _ us hl => match us, hl with | [_], _ => rfl
def run__law_sign : List Sl → RF := runF 2 1 (body__law_sign (fun a => (run__law_next a).nox))
theorem ok__law_sign {P : Program} {w : World} {K : Frag} {mg : Str → Option Value} {base : Heap} {a : Nat → Addr} {fd : Nat → FuncData} (T : Tx K mg a fd) : FnOk P w K mg base CX0 3 (a 11) (fd 11) ["deck"] (spF K mg 1 1 fun x => (run__law_sign x).nox) :=
  fn_ok (N := ["deck", "signs"]) (b := (body__law_sign (fun a => (run__law_next a).nox))) T.f__law_sign sc__law_sign fun cdv A outer s H E hr =>
  (sb_cons (ss_set (i := 1) sc__law_sign.nd rfl (by first | exact Or.inl rfl | exact Or.inr rfl) se_str)
  (sb_one (ss_ret (se_ixA (se_lst (sa_cons (se_ixA (se_var (pv 1)) (se_fn (ok__law_next T) (hr.mono (by decide)) (by rfl) T.g__law_next T.f__law_next.kp (b__law_next T) (sr_io (pv 0) (sr_cons (se_len (by rfl) T.z_len (sa_cons (se_var (pv 1)) sa_nil)) sr_nil))) (fun _ _ => rfl)) (sa_cons (se_ixA se_str (se_fn (ok__law_next T) (hr.mono (by decide)) (by rfl) T.g__law_next T.f__law_next.kp (b__law_next T) (sr_io (pv 0) (sr_cons se_int sr_nil))) (fun _ _ => rfl)) sa_nil))) (se_fn (ok__law_next T) (hr.mono (by decide)) (by rfl) T.g__law_next T.f__law_next.kp (b__law_next T) (sr_io (pv 0) (sr_cons se_int sr_nil))) (fun _ _ => rfl)))))
/-! ### _law_spoilt -/
theorem sc__law_spoilt : FnScope ["deck", "text", "k", "at", "sign", "some"] ["deck", "text"] (defScope s__law_spoilt) := ⟨rfl, rfl, rfl, by decide +kernel, rfl, by decide +kernel, by decide +kernel⟩
def body__law_spoilt (c__law_next : List Sl → RF) (c__law_sign : List Sl → RF) : XS :=
  (sSeq (sFor (iArgs rg1 (aCons (eOp dAdd (eC (.int 1)) (eFn 2 1 c__law_next (rIo 0 (rCons (eC (.int 3)) rNil)))) aNil)) (gN 2) (sSeq (sSet 3 (eOp dIx (eCall gLst (aCons (eFn 2 1 c__law_next (rIo 0 (rCons (eOp dAdd (eCall dLen (aCons (eVar 1) aNil)) (eC (.int 1))) rNil))) (aCons (eCall dMax (aCons (eC (.int 0)) (aCons (eOp dSub (eCall dLen (aCons (eVar 1) aNil)) (eC (.int 1))) aNil))) (aCons (eC (.int 0)) aNil)))) (eFn 2 1 c__law_next (rIo 0 (rCons (eC (.int 3)) rNil)))))
  (sSeq (sSet 4 (eFn 1 1 c__law_sign (rIo 0 rNil)))
  (sSeq (sSet 5 (eCall gLst (aCons (eOp dAdd (eOp dAdd (eSl dSlA (eVar 1) oNone (oSome (eVar 3))) (eVar 4)) (eSl dSlA (eVar 1) (oSome (eVar 3)) oNone)) (aCons (eOp dAdd (eOp dAdd (eSl dSlA (eVar 1) oNone (oSome (eVar 3))) (eVar 4)) (eSl dSlA (eVar 1) (oSome (eOp dAdd (eVar 3) (eC (.int 1)))) oNone)) (aCons (eOp dAdd (eSl dSlA (eVar 1) oNone (oSome (eVar 3))) (eSl dSlA (eVar 1) (oSome (eOp dAdd (eVar 3) (eC (.int 1)))) oNone)) (aCons (eSl dSlA (eVar 1) oNone (oSome (eVar 3))) aNil))))))
  (sSet 1 (eOp dIx (eOp dAdd (eVar 5) (eCall gLst (aCons (eOp dAdd (eVar 1) (eVar 1)) (aCons (eOp dAdd (eVar 1) (eOp dIx (eC (.str (Str.ofString "01"))) (eFn 2 1 c__law_next (rIo 0 (rCons (eC (.int 2)) rNil))))) aNil)))) (eFn 2 1 c__law_next (rIo 0 (rCons (eC (.int 6)) rNil)))))))))
  (sRet (eSl dSlA (eVar 1) oNone (oSome (eC (.int 700))))))
theorem b__law_spoilt {K : Frag} {mg : Str → Option Value} {a : Nat → Addr} {fd : Nat → FuncData} (T : Tx K mg a fd) : Binds K (fd 12) ["deck", "text"] [] := T.f__law_spoilt.binds (ps := ["deck", "text"]) fun _ _ _ _ _ _ us hl => match us, hl with | [_, _], _ => rfl
def run__law_spoilt : List Sl → RF := runF 6 1 (body__law_spoilt (fun a => (run__law_next a).nox) (fun a => (run__law_sign a).nox))
theorem ok__law_spoilt {P : Program} {w : World} {K : Frag} {mg : Str → Option Value} {base : Heap} {a : Nat → Addr} {fd : Nat → FuncData} (T : Tx K mg a fd) : FnOk P w K mg base CX0 4 (a 12) (fd 12) ["deck", "text"] (spF K mg 2 1 fun x => (run__law_spoilt x).nox) :=
  fn_ok (N := ["deck", "text", "k", "at", "sign", "some"]) (b := (body__law_spoilt (fun a => (run__law_next a).nox) (fun a => (run__law_sign a).nox))) T.f__law_spoilt sc__law_spoilt fun cdv A outer s H E hr =>
  (sb_cons (ss_for PassesOwn.never rfl (si_range1 (by rfl) T.z_range (sa_cons (se_add se_int (se_fn (ok__law_next T) (hr.mono (by decide)) (by rfl) T.g__law_next T.f__law_next.kp (b__law_next T) (sr_io (pv 0) (sr_cons se_int sr_nil)))) sa_nil)) (sg_name (i := 2) sc__law_spoilt.nd rfl (by first | exact Or.inl rfl | exact Or.inr rfl)) (sb_cons (ss_set (i := 3) sc__law_spoilt.nd rfl (by first | exact Or.inl rfl | exact Or.inr rfl) (se_ixA (se_lst (sa_cons (se_fn (ok__law_next T) (hr.mono (by decide)) (by rfl) T.g__law_next T.f__law_next.kp (b__law_next T) (sr_io (pv 0) (sr_cons (se_add (se_len (by rfl) T.z_len (sa_cons (se_var (pv 1)) sa_nil)) se_int) sr_nil))) (sa_cons (se_max2 rfl (by rfl) T.z_max (sa_cons se_int (sa_cons (se_sub (se_len (by rfl) T.z_len (sa_cons (se_var (pv 1)) sa_nil)) se_int) sa_nil))) (sa_cons se_int sa_nil)))) (se_fn (ok__law_next T) (hr.mono (by decide)) (by rfl) T.g__law_next T.f__law_next.kp (b__law_next T) (sr_io (pv 0) (sr_cons se_int sr_nil))) (fun _ _ => rfl)))
  (sb_cons (ss_set (i := 4) sc__law_spoilt.nd rfl (by first | exact Or.inl rfl | exact Or.inr rfl) (se_fn (ok__law_sign T) (hr.mono (by decide)) (by rfl) T.g__law_sign T.f__law_sign.kp (b__law_sign T) (sr_io (pv 0) sr_nil)))
  (sb_cons (ss_set (i := 5) sc__law_spoilt.nd rfl (by first | exact Or.inl rfl | exact Or.inr rfl) (se_lst (sa_cons (se_add (se_add (se_sliceA (se_var (pv 1)) so_none (so_some (se_var (pv 3)))) (se_var (pv 4))) (se_sliceA (se_var (pv 1)) (so_some (se_var (pv 3))) so_none)) (sa_cons (se_add (se_add (se_sliceA (se_var (pv 1)) so_none (so_some (se_var (pv 3)))) (se_var (pv 4))) (se_sliceA (se_var (pv 1)) (so_some (se_add (se_var (pv 3)) se_int)) so_none)) (sa_cons (se_add (se_sliceA (se_var (pv 1)) so_none (so_some (se_var (pv 3)))) (se_sliceA (se_var (pv 1)) (so_some (se_add (se_var (pv 3)) se_int)) so_none)) (sa_cons (se_sliceA (se_var (pv 1)) so_none (so_some (se_var (pv 3)))) sa_nil))))))
  (sb_one (ss_set (i := 1) sc__law_spoilt.nd rfl (by first | exact Or.inl rfl | exact Or.inr rfl) (se_ixA (se_add (se_var (pv 5)) (se_lst (sa_cons (se_add (se_var (pv 1)) (se_var (pv 1))) (sa_cons (se_add (se_var (pv 1)) (se_ixA se_str (se_fn (ok__law_next T) (hr.mono (by decide)) (by rfl) T.g__law_next T.f__law_next.kp (b__law_next T) (sr_io (pv 0) (sr_cons se_int sr_nil))) (fun _ _ => rfl))) sa_nil)))) (se_fn (ok__law_next T) (hr.mono (by decide)) (by rfl) T.g__law_next T.f__law_next.kp (b__law_next T) (sr_io (pv 0) (sr_cons se_int sr_nil))) (fun _ _ => rfl))))))))
  (sb_one (ss_ret (se_sliceA (se_var (pv 1)) so_none (so_some se_int)))))
/-! ### _law_due -/
theorem sc__law_due : FnScope ["text", "place", "bits", "corner", "sign"] ["text"] (defScope s__law_due) := ⟨rfl, rfl, rfl, by decide +kernel, rfl, by decide +kernel, by decide +kernel⟩
def body__law_due (c__law_all : List Sl → RF) : XS :=
  (sSeq (sFor (iArgs rg1 (aCons (eCall dLen (aCons (eVar 0) aNil)) aNil)) (gN 1) (sIf (tAnd (tOf (eOp dNe (eOp dIx (eVar 0) (eVar 1)) (eC (.str (Str.ofString "0"))))) (tOf (eOp dNe (eOp dIx (eVar 0) (eVar 1)) (eC (.str (Str.ofString "1")))))) (sRet (eCall gTup (aCons (eC (.str (Str.ofString "set"))) (aCons (eVar 1) aNil)))) sNx))
  (sSeq (sSet 2 (eDictG [(.inl 2, .inl 1), (.inl 4, .inl 2), (.inl 8, .inl 3), (.inl 16, .inl 4), (.inl 32, .inl 5), (.inl 64, .inl 6)] (eCall dLen (aCons (eVar 0) aNil)) (eC (.int 0))))
  (sSeq (sIf (tOf (eOp dEq (eVar 2) (eC (.int 0)))) (sRet (eCall gTup (aCons (eC (.str (Str.ofString "set"))) (aCons (eCall dLen (aCons (eVar 0) aNil)) aNil)))) sNx)
  (sRet (eCall gTup (aCons (eVar 2) (aCons (eCall dTuple (aCons (eNew (nLc (iArgs gZip (aCons (eFn 1 0 c__law_all (rCons (eVar 2) rNil)) (aCons (eVar 0) aNil))) (gT 2 (gsCons (gN 3) (gsCons (gN 4) gsNil))) (tOf (eOp dEq (eVar 4) (eC (.str (Str.ofString "1"))))) (eVar 3) [3, 4])) aNil)) aNil)))))))
theorem b__law_due {K : Frag} {mg : Str → Option Value} {a : Nat → Addr} {fd : Nat → FuncData} (T : Tx K mg a fd) : Binds K (fd 13) ["text"] [] := T.f__law_due.binds (ps := ["text"]) fun _ _ _ _ _ _ us hl => match us, hl with | [_], _ => rfl
def run__law_due : List Sl → RF := runF 5 0 (body__law_due (fun a => (run__law_all a).nox))
theorem ok__law_due {P : Program} {w : World} {K : Frag} {mg : Str → Option Value} {base : Heap} {a : Nat → Addr} {fd : Nat → FuncData} (T : Tx K mg a fd) : FnOk P w K mg base CX0 2 (a 13) (fd 13) ["text"] (spF K mg 1 0 fun x => (run__law_due x).nox) :=
  fn_ok (N := ["text", "place", "bits", "corner", "sign"]) (b := (body__law_due (fun a => (run__law_all a).nox))) T.f__law_due sc__law_due fun cdv A outer s H E hr =>
  (sb_cons (ss_for PassesOwn.never rfl (si_range1 (by rfl) T.z_range (sa_cons (se_len (by rfl) T.z_len (sa_cons (se_var (pv 0)) sa_nil)) sa_nil)) (sg_name (i := 1) sc__law_due.nd rfl (by first | exact Or.inl rfl | exact Or.inr rfl)) (sb_one (ss_if (st_bool (sw_and (st_ne hr.units (se_ixA (se_var (pv 0)) (se_var (pv 1)) (fun _ _ => rfl)) se_str) (sw_and1 (st_ne hr.units (se_ixA (se_var (pv 0)) (se_var (pv 1)) (fun _ _ => rfl)) se_str)))) (sb_one (ss_ret (se_tup (sa_cons se_str (sa_cons (se_var (pv 1)) sa_nil))))) sb_nil)))
  (sb_cons (ss_set (i := 2) sc__law_due.nd rfl (by first | exact Or.inl rfl | exact Or.inr rfl) (se_dictG (kvs := [(.inl 2, .inl 1), (.inl 4, .inl 2), (.inl 8, .inl 3), (.inl 16, .inl 4), (.inl 32, .inl 5), (.inl 64, .inl 6)]) hr.units (pps_cons pe_int pe_int (pps_cons pe_int pe_int (pps_cons pe_int pe_int (pps_cons pe_int pe_int (pps_cons pe_int pe_int (pps_cons pe_int pe_int pps_nil)))))) (by decide) (by decide) (se_len (by rfl) T.z_len (sa_cons (se_var (pv 0)) sa_nil)) se_int ⟨rfl, rfl, rfl, rfl⟩))
  (sb_cons (ss_if (st_eq hr.units (se_var (pv 2)) se_int) (sb_one (ss_ret (se_tup (sa_cons se_str (sa_cons (se_len (by rfl) T.z_len (sa_cons (se_var (pv 0)) sa_nil)) sa_nil))))) sb_nil)
  (sb_one (ss_ret (se_tup (sa_cons (se_var (pv 2)) (sa_cons (se_tuple (by rfl) T.z_tuple (sa_cons (se_new (sn_lc (own := [("corner", 3), ("sign", 4)]) rfl sc__law_due.nd (si_zip (by rfl) T.z_zip (sa_cons (se_fn (ok__law_all T) (hr.mono (by decide)) (by rfl) T.g__law_all T.f__law_all.kp (b__law_all T) (sr_cons (se_var (pv 2)) sr_nil)) (sa_cons (se_var (pv 0)) sa_nil))) (blkOk_by (N := ["text", "place", "bits", "corner", "sign"]) (own := [("corner", 3), ("sign", 4)]) (sc := (defScope s__law_due)) (by decide +kernel)) (by simp) (fun _ _ _ _ _ => (sg_tup rfl (sgs_cons (sg_name (i := 3) sc__law_due.nd rfl (by first | exact Or.inl rfl | exact Or.inr rfl)) (sgs_cons (sg_name (i := 4) sc__law_due.nd rfl (by first | exact Or.inl rfl | exact Or.inr rfl)) sgs_nil)))) (fun _ _ _ _ _ => (sts_one (st_eq hr.units (se_var (pv 4)) se_str))) (fun _ _ _ _ _ => (se_var (pv 3))))) sa_nil)) sa_nil))))))))
/-! ### _law_right -/
theorem sc__law_right : FnScope ["text", "due", "again", "found", "caught", "e"] ["text"] (defScope s__law_right) := ⟨rfl, rfl, rfl, by decide +kernel, rfl, by decide +kernel, by decide +kernel⟩
def body__law_right (c_read_set : List Sl → RF) (c__law_kind : List Sl → RF) (c__law_due : List Sl → RF) : XS :=
  (sSeq (sSet 1 (eFn 1 0 c__law_due (rCons (eVar 0) rNil)))
  (sSeq (sFor (iArgs rg1 (aCons (eC (.int 2)) aNil)) (gN 2) (sSeq (sSet 3 (eC .none))
  (sSeq (sSet 4 (eC .none))
  (sSeq (sTry 5 4 (tblL [("NoSet", true), ("NoCorner", true)]) (sSet 3 (eFn 1 0 c_read_set (rCons (eVar 0) rNil))))
  (sIf (tOf (eOp dEq (eOp dIx (eVar 1) (eC (.int 0))) (eC (.str (Str.ofString "set"))))) (sIf (tOr (tOf (eIsNX 4)) (tOf (eOp dNe (eFn 1 0 c__law_kind (rExn 4 rNil)) (eVar 1)))) (sRet (eC (.bool false))) sNx) (sIf (tOr (tNot (tOf (eIsi "tuple" (eVar 3)))) (tOf (eOp dNe (eVar 3) (eVar 1)))) (sRet (eC (.bool false))) sNx))))))
  (sRet (eC (.bool true)))))
theorem b__law_right {K : Frag} {mg : Str → Option Value} {a : Nat → Addr} {fd : Nat → FuncData} (T : Tx K mg a fd) : Binds K (fd 14) ["text"] [] := T.f__law_right.binds (ps := ["text"]) fun _ _ _ _ _ _ us hl => match us, hl with | [_], _ => rfl
def run__law_right : List Sl → RF := runF 6 0 (body__law_right run_read_set (fun a => (run__law_kind a).nox) (fun a => (run__law_due a).nox))
theorem ok__law_right {P : Program} {w : World} {K : Frag} {mg : Str → Option Value} {base : Heap} {a : Nat → Addr} {fd : Nat → FuncData} (T : Tx K mg a fd) : FnOk P w K mg base CX0 4 (a 14) (fd 14) ["text"] (spF K mg 1 0 fun x => (run__law_right x).nox) :=
  fn_ok (N := ["text", "due", "again", "found", "caught", "e"]) (b := (body__law_right run_read_set (fun a => (run__law_kind a).nox) (fun a => (run__law_due a).nox))) T.f__law_right sc__law_right fun cdv A outer s H E hr =>
  (sb_cons (ss_set (i := 1) sc__law_right.nd rfl (by first | exact Or.inl rfl | exact Or.inr rfl) (se_fn (ok__law_due T) (hr.mono (by decide)) (by rfl) T.g__law_due T.f__law_due.kp (b__law_due T) (sr_cons (se_var (pv 0)) sr_nil)))
  (sb_cons (ss_for PassesOwn.never rfl (si_range1 (by rfl) T.z_range (sa_cons se_int sa_nil)) (sg_name (i := 2) sc__law_right.nd rfl (by first | exact Or.inl rfl | exact Or.inr rfl)) (sb_cons (ss_set (i := 3) sc__law_right.nd rfl (by first | exact Or.inl rfl | exact Or.inr rfl) se_non)
  (sb_cons (ss_set (i := 4) sc__law_right.nd rfl (by first | exact Or.inl rfl | exact Or.inr rfl) se_non)
  (sb_cons (ss_try (i := 5) (j := 4) T.e_FaceError rfl rfl rfl sc__law_right.nd (by decide) rfl rfl rfl (by first | exact Or.inl rfl | exact Or.inr rfl) rfl (Or.inl rfl) ⟨by rfl, by decide, Or.inl T.g_FaceError⟩ tk0 fun W pl xe tk => (sb_one (ss_set (i := 3) sc__law_right.nd rfl (by first | exact Or.inl rfl | exact Or.inr rfl) (se_fnX (ok_read_set T) tk (hr.mono (by decide)) (by rfl) T.g_read_set T.f_read_set.kp (b_read_set T) (sr_cons (se_var (pv 0)) sr_nil)))))
  (sb_one (ss_if (st_eq hr.units (se_ixA (se_var (pv 1)) se_int (fun _ _ => rfl)) se_str) (sb_one (ss_if (st_bool (sw_or (st_isNX (pv 4)) (sw_or1 (st_ne hr.units (se_fn (ok__law_kind T) (hr.mono (by decide)) (by rfl) T.g__law_kind T.f__law_kind.kp (b__law_kind T) (sr_exn (pv 4) sr_nil)) (se_var (pv 1)))))) (sb_one (ss_ret se_bl)) sb_nil)) (sb_one (ss_if (st_bool (sw_or (pt_not' (st_val (se_isi (by rfl) T.z_isinstance (se_var (pv 3)) (pe_bltn (by rfl) T.z_tuple (by decide +kernel) rfl)))) (sw_or1 (st_ne hr.units (se_var (pv 3)) (se_var (pv 1)))))) (sb_one (ss_ret se_bl)) sb_nil))))))))
  (sb_one (ss_ret se_bl))))
/-! ### law -/
theorem sc_law : FnScope ["script", "deck", "turn", "said", "bits", "corners", "text", "some", "free", "k", "corner", "odd"] ["script"] (defScope s_law) := ⟨rfl, rfl, rfl, by decide +kernel, rfl, by decide +kernel, by decide +kernel⟩
def body_law (c__law_deck : List Sl → RF) (c__law_next : List Sl → RF) (c__law_bits : List Sl → RF) (c__law_all : List Sl → RF) (c__law_set : List Sl → RF) (c__law_kind : List Sl → RF) (c__law_sign : List Sl → RF) (c__law_spoilt : List Sl → RF) (c__law_right : List Sl → RF) : XS :=
  (sSeq (sOwn 1 (nFn 1 0 c__law_deck (rScr 0 rNil)))
  (sSeq (sFor (iArgs rg1 (aCons (eC (.int 6)) aNil)) (gN 2) (sSeq (sAsg (gT 2 (gsCons (gN 4) (gsCons (gN 5) gsNil))) (eFn 2 1 c__law_set (rIo 1 (rCons (eFn 1 1 c__law_bits (rIo 1 rNil)) rNil))))
  (sSeq (sSet 6 (eMeth isStr dJoin (eC (.str (Str.ofString ""))) (aCons (eNew (nLc (iOf (eFn 1 0 c__law_all (rCons (eVar 4) rNil))) (gN 10) (fun e => R.ok true e) (eOp dIx (eC (.str (Str.ofString "01"))) (eCall dIntA (aCons (eOp dIn (eVar 10) (eVar 5)) aNil))) [10])) aNil)))
  (sSeq (sOwn 7 (nLc (iArgs rg1 (aCons (eC (.int 6)) aNil)) (gN 9) (fun e => R.ok true e) (eFn 2 1 c__law_spoilt (rIo 1 (rCons (eVar 6) rNil))) [9]))
  (sSeq (sOwn 7 (nAddL (eVar 7) (eCall gLst (aCons (eOp dAdd (eC (.str (Str.ofString " "))) (eVar 6)) (aCons (eOp dAdd (eVar 6) (eC (.str (Str.ofString " ")))) (aCons (eOp dAdd (eVar 6) (eC (.str (Str.ofString "\n")))) (aCons (eOp dAdd (eVar 6) (eVar 6)) (aCons (eSl dSlA (eVar 6) oNone (oSome (eNeg (eC (.int 1))))) (aCons (eOp dAdd (eVar 6) (eC (.str (Str.ofString "0")))) (aCons (eVar 6) aNil))))))))))
  (sSeq (sSet 8 (eOp dIx (eCall gLst (aCons (eFn 2 1 c__law_next (rIo 1 (rCons (eC (.int 67)) rNil))) (aCons (eFn 2 1 c__law_next (rIo 1 (rCons (eC (.int 701)) rNil))) (aCons (eC (.int 2)) (aCons (eC (.int 64)) (aCons (eC (.int 128)) (aCons (eC (.int 700)) aNil))))))) (eFn 2 1 c__law_next (rIo 1 (rCons (eC (.int 6)) rNil)))))
  (sSeq (sExpr (eMut 7 mAppend (aCons (eMeth isStr dJoin (eC (.str (Str.ofString ""))) (aCons (eNew (nLc (iArgs rg1 (aCons (eVar 8) aNil)) (gN 9) (fun e => R.ok true e) (eOp dIx (eC (.str (Str.ofString "01"))) (eFn 2 1 c__law_next (rIo 1 (rCons (eC (.int 2)) rNil)))) [9])) aNil)) aNil)))
  (sIf (tOf (eOp dNe (eNew (nLc (iOf (eOp dAdd (eVar 7) (eCall gLst (aCons (eFn 1 1 c__law_sign (rIo 1 rNil)) aNil)))) (gN 11) (tNot (tOf (eFn 1 0 c__law_right (rCons (eVar 11) rNil)))) (eVar 11) [11])) (eCall gLst aNil))) (sRet (eC (.bool false))) sNx))))))))
  (sSeq (sSet 3 (eOp dIx (eCall gLst (aCons (eC (.str (Str.ofString " No such: 7"))) (aCons (eC (.str (Str.ofString ""))) (aCons (eC (.str (Str.ofString "a  B"))) (aCons (eOp dAdd (eOp dMulS (eC (.str (Str.ofString "x"))) (eC (.int 60))) (eC (.str (Str.ofString "\n")))) aNil))))) (eFn 2 1 c__law_next (rIo 1 (rCons (eC (.int 4)) rNil)))))
  (sSeq (sIf (tOf (eOp dNe (eCall gLst (aCons (eStrX (eVar 3)) (aCons (eStrX (eVar 3)) aNil))) (eOp dMul (eCall gLst (aCons (eVar 3) aNil)) (eC (.int 2))))) (sRet (eC (.bool false))) sNx)
  (sSeq (sIf (tOr (tOf (eOp dNe (eFn 1 0 c__law_kind (rXv (mMkF "NoSet" "place" (eC (.int 7))) rNil)) (eCall gTup (aCons (eC (.str (Str.ofString "set"))) (aCons (eC (.int 7)) aNil))))) (tOf (eOp dNe (eFn 1 0 c__law_kind (rXv (mMkF "NoCorner" "corner" (eC (.str (Str.ofString "01")))) rNil)) (eCall gTup (aCons (eC (.str (Str.ofString "corner"))) (aCons (eC (.str (Str.ofString "01"))) aNil)))))) (sRet (eC (.bool false))) sNx)
  (sRet (eOp dEq (eNew (nLc (iOf (eCall gLst (aCons (eC (.str (Str.ofString ""))) (aCons (eC (.str (Str.ofString "0"))) (aCons (eC (.str (Str.ofString "1"))) (aCons (eC (.str (Str.ofString "00"))) (aCons (eC (.str (Str.ofString "000"))) (aCons (eC (.str (Str.ofString "0 01"))) (aCons (eC (.str (Str.ofString "01 0"))) (aCons (eC (.str (Str.ofString "2"))) (aCons (eOp dMulS (eC (.str (Str.ofString "~"))) (eC (.int 700))) aNil))))))))))) (gN 6) (tNot (tOf (eFn 1 0 c__law_right (rCons (eVar 6) rNil)))) (eVar 6) [6])) (eCall gLst aNil))))))))
theorem b_law {K : Frag} {mg : Str → Option Value} {a : Nat → Addr} {fd : Nat → FuncData} (T : Tx K mg a fd) : Binds K (fd 15) ["script"] [] := T.f_law.binds (ps := ["script"]) fun _ _ _ _ _ _ us hl => match us, hl with | [_], _ => rfl
def run_law : List Sl → RF := runF 12 0 (body_law (fun a => (run__law_deck a).nox) (fun a => (run__law_next a).nox) (fun a => (run__law_bits a).nox) (fun a => (run__law_all a).nox) (fun a => (run__law_set a).nox) (fun a => (run__law_kind a).nox) (fun a => (run__law_sign a).nox) (fun a => (run__law_spoilt a).nox) (fun a => (run__law_right a).nox))
theorem ok_law {P : Program} {w : World} {K : Frag} {mg : Str → Option Value} {base : Heap} {a : Nat → Addr} {fd : Nat → FuncData} (T : Tx K mg a fd) : FnOk P w K mg base CX0 5 (a 15) (fd 15) ["script"] (spF K mg 1 0 fun x => (run_law x).nox) :=
  fn_ok (N := ["script", "deck", "turn", "said", "bits", "corners", "text", "some", "free", "k", "corner", "odd"]) (b := (body_law (fun a => (run__law_deck a).nox) (fun a => (run__law_next a).nox) (fun a => (run__law_bits a).nox) (fun a => (run__law_all a).nox) (fun a => (run__law_set a).nox) (fun a => (run__law_kind a).nox) (fun a => (run__law_sign a).nox) (fun a => (run__law_spoilt a).nox) (fun a => (run__law_right a).nox))) T.f_law sc_law fun cdv A outer s H E hr =>
  (sb_cons (ss_own (i := 1) sc_law.nd rfl (by first | exact Or.inl rfl | exact Or.inr rfl) (sn_fn (ok__law_deck T) (hr.mono (by decide)) (by rfl) T.g__law_deck T.f__law_deck.kp (b__law_deck T) (sr_scr (pv 0) sr_nil)))
  (sb_cons (ss_for PassesOwn.never rfl (si_range1 (by rfl) T.z_range (sa_cons se_int sa_nil)) (sg_name (i := 2) sc_law.nd rfl (by first | exact Or.inl rfl | exact Or.inr rfl)) (sb_cons (ss_asg (se_fn (ok__law_set T) (hr.mono (by decide)) (by rfl) T.g__law_set T.f__law_set.kp (b__law_set T) (sr_io (pv 1) (sr_cons (se_fn (ok__law_bits T) (hr.mono (by decide)) (by rfl) T.g__law_bits T.f__law_bits.kp (b__law_bits T) (sr_io (pv 1) sr_nil)) sr_nil))) (sg_tup rfl (sgs_cons (sg_name (i := 4) sc_law.nd rfl (by first | exact Or.inl rfl | exact Or.inr rfl)) (sgs_cons (sg_name (i := 5) sc_law.nd rfl (by first | exact Or.inl rfl | exact Or.inr rfl)) sgs_nil))))
  (sb_cons (ss_set (i := 6) sc_law.nd rfl (by first | exact Or.inl rfl | exact Or.inr rfl) (se_join se_str (sa_cons (se_new (sn_lc (own := [("corner", 10)]) rfl sc_law.nd (si_dat (se_fn (ok__law_all T) (hr.mono (by decide)) (by rfl) T.g__law_all T.f__law_all.kp (b__law_all T) (sr_cons (se_var (pv 4)) sr_nil))) (blkOk_by (N := ["script", "deck", "turn", "said", "bits", "corners", "text", "some", "free", "k", "corner", "odd"]) (own := [("corner", 10)]) (sc := (defScope s_law)) (by decide +kernel)) (by simp) (fun _ _ _ _ _ => (sg_name (i := 10) sc_law.nd rfl (by first | exact Or.inl rfl | exact Or.inr rfl))) (fun _ _ _ _ _ => sts_nil) (fun _ _ _ _ _ => (se_ixA se_str (se_intA (by rfl) T.z_int (sa_cons (se_in (se_var (pv 10)) (se_var (pv 5))) sa_nil)) (fun _ _ => rfl))))) sa_nil)))
  (sb_cons (ss_ownLc (i := 7) (own := [("k", 9)]) rfl sc_law.nd rfl rfl (sw_true rfl rfl rfl (by decide +kernel)) (si_range1 (by rfl) T.z_range (sa_cons se_int sa_nil)) (blkOk_by (N := ["script", "deck", "turn", "said", "bits", "corners", "text", "some", "free", "k", "corner", "odd"]) (own := [("k", 9)]) (sc := (defScope s_law)) (by decide +kernel)) (by simp) (fun _ _ _ _ _ => (sg_name (i := 9) sc_law.nd rfl (by first | exact Or.inl rfl | exact Or.inr rfl))) (fun _ _ _ _ _ => sts_nil) (fun _ _ _ _ _ => (se_fn (ok__law_spoilt T) (hr.mono (by decide)) (by rfl) T.g__law_spoilt T.f__law_spoilt.kp (b__law_spoilt T) (sr_io (pv 1) (sr_cons (se_var (pv 6)) sr_nil)))))
  (sb_cons (ss_own (i := 7) sc_law.nd rfl (by first | exact Or.inl rfl | exact Or.inr rfl) (sn_addL (se_var (pv 7)) (se_lst (sa_cons (se_add se_str (se_var (pv 6))) (sa_cons (se_add (se_var (pv 6)) se_str) (sa_cons (se_add (se_var (pv 6)) se_str) (sa_cons (se_add (se_var (pv 6)) (se_var (pv 6))) (sa_cons (se_sliceA (se_var (pv 6)) so_none (so_some (se_neg se_int))) (sa_cons (se_add (se_var (pv 6)) se_str) (sa_cons (se_var (pv 6)) sa_nil))))))))))
  (sb_cons (ss_set (i := 8) sc_law.nd rfl (by first | exact Or.inl rfl | exact Or.inr rfl) (se_ixA (se_lst (sa_cons (se_fn (ok__law_next T) (hr.mono (by decide)) (by rfl) T.g__law_next T.f__law_next.kp (b__law_next T) (sr_io (pv 1) (sr_cons se_int sr_nil))) (sa_cons (se_fn (ok__law_next T) (hr.mono (by decide)) (by rfl) T.g__law_next T.f__law_next.kp (b__law_next T) (sr_io (pv 1) (sr_cons se_int sr_nil))) (sa_cons se_int (sa_cons se_int (sa_cons se_int (sa_cons se_int sa_nil))))))) (se_fn (ok__law_next T) (hr.mono (by decide)) (by rfl) T.g__law_next T.f__law_next.kp (b__law_next T) (sr_io (pv 1) (sr_cons se_int sr_nil))) (fun _ _ => rfl)))
  (sb_cons (ss_expr (se_append (pv 7) (sa_cons (se_join se_str (sa_cons (se_new (sn_lc (own := [("k", 9)]) rfl sc_law.nd (si_range1 (by rfl) T.z_range (sa_cons (se_var (pv 8)) sa_nil)) (blkOk_by (N := ["script", "deck", "turn", "said", "bits", "corners", "text", "some", "free", "k", "corner", "odd"]) (own := [("k", 9)]) (sc := (defScope s_law)) (by decide +kernel)) (by simp) (fun _ _ _ _ _ => (sg_name (i := 9) sc_law.nd rfl (by first | exact Or.inl rfl | exact Or.inr rfl))) (fun _ _ _ _ _ => sts_nil) (fun _ _ _ _ _ => (se_ixA se_str (se_fn (ok__law_next T) (hr.mono (by decide)) (by rfl) T.g__law_next T.f__law_next.kp (b__law_next T) (sr_io (pv 1) (sr_cons se_int sr_nil))) (fun _ _ => rfl))))) sa_nil)) sa_nil)))
  (sb_one (ss_if (st_ne hr.units (se_new (sn_lc (own := [("odd", 11)]) rfl sc_law.nd (si_dat (se_add (se_var (pv 7)) (se_lst (sa_cons (se_fn (ok__law_sign T) (hr.mono (by decide)) (by rfl) T.g__law_sign T.f__law_sign.kp (b__law_sign T) (sr_io (pv 1) sr_nil)) sa_nil)))) (blkOk_by (N := ["script", "deck", "turn", "said", "bits", "corners", "text", "some", "free", "k", "corner", "odd"]) (own := [("odd", 11)]) (sc := (defScope s_law)) (by decide +kernel)) (by simp) (fun _ _ _ _ _ => (sg_name (i := 11) sc_law.nd rfl (by first | exact Or.inl rfl | exact Or.inr rfl))) (fun _ _ _ _ _ => (sts_one (pt_not' (st_val (se_fn (ok__law_right T) (hr.mono (by decide)) (by rfl) T.g__law_right T.f__law_right.kp (b__law_right T) (sr_cons (se_var (pv 11)) sr_nil)))))) (fun _ _ _ _ _ => (se_var (pv 11))))) (se_lst sa_nil)) (sb_one (ss_ret se_bl)) sb_nil)))))))))
  (sb_cons (ss_set (i := 3) sc_law.nd rfl (by first | exact Or.inl rfl | exact Or.inr rfl) (se_ixA (se_lst (sa_cons se_str (sa_cons se_str (sa_cons se_str (sa_cons (se_add (se_mulS se_str se_int) se_str) sa_nil))))) (se_fn (ok__law_next T) (hr.mono (by decide)) (by rfl) T.g__law_next T.f__law_next.kp (b__law_next T) (sr_io (pv 1) (sr_cons se_int sr_nil))) (fun _ _ => rfl)))
  (sb_cons (ss_if (st_ne hr.units (se_lst (sa_cons (se_strX (roomU hr) T.x_NoAsk T.q_NoAsk T.s_NoAsk (by rfl) (by rfl) T.z_str (se_var (pv 3))) (sa_cons (se_strX (roomU hr) T.x_NoParting T.q_NoParting T.s_NoParting (by rfl) (by rfl) T.z_str (se_var (pv 3))) sa_nil))) (se_mul (se_lst (sa_cons (se_var (pv 3)) sa_nil)) se_int)) (sb_one (ss_ret se_bl)) sb_nil)
  (sb_cons (ss_if (st_bool (sw_or (st_ne hr.units (se_fn (ok__law_kind T) (hr.mono (by decide)) (by rfl) T.g__law_kind T.f__law_kind.kp (b__law_kind T) (sr_xv (sx_mk (sm_oex T.n_NoSet T.o_NoSet T.oi_NoSet T.ot_NoSet (ok_init_NoSet T) (hr.mono (by decide)) (b_init_NoSet T) (by rfl) T.g_NoSet se_int)) sr_nil)) (se_tup (sa_cons se_str (sa_cons se_int sa_nil)))) (sw_or1 (st_ne hr.units (se_fn (ok__law_kind T) (hr.mono (by decide)) (by rfl) T.g__law_kind T.f__law_kind.kp (b__law_kind T) (sr_xv (sx_mk (sm_oex T.n_NoCorner T.o_NoCorner T.oi_NoCorner T.ot_NoCorner (ok_init_NoCorner T) (hr.mono (by decide)) (b_init_NoCorner T) (by rfl) T.g_NoCorner se_str)) sr_nil)) (se_tup (sa_cons se_str (sa_cons se_str sa_nil))))))) (sb_one (ss_ret se_bl)) sb_nil)
  (sb_one (ss_ret (se_eq hr.units (se_new (sn_lc (own := [("text", 6)]) rfl sc_law.nd (si_dat (se_lst (sa_cons se_str (sa_cons se_str (sa_cons se_str (sa_cons se_str (sa_cons se_str (sa_cons se_str (sa_cons se_str (sa_cons se_str (sa_cons (se_mulS se_str se_int) sa_nil))))))))))) (blkOk_by (N := ["script", "deck", "turn", "said", "bits", "corners", "text", "some", "free", "k", "corner", "odd"]) (own := [("text", 6)]) (sc := (defScope s_law)) (by decide +kernel)) (by simp) (fun _ _ _ _ _ => (sg_name (i := 6) sc_law.nd rfl (by first | exact Or.inl rfl | exact Or.inr rfl))) (fun _ _ _ _ _ => (sts_one (pt_not' (st_val (se_fn (ok__law_right T) (hr.mono (by decide)) (by rfl) T.g__law_right T.f__law_right.kp (b__law_right T) (sr_cons (se_var (pv 6)) sr_nil)))))) (fun _ _ _ _ _ => (se_var (pv 6))))) (se_lst sa_nil)))))))))
end G
set_option linter.all false
set_option maxRecDepth 100000
namespace G
open PySem PySem.Spec PyProof.Rows L2
theorem x5_1 : ixN 5 1 = some 1 := rfl
theorem x5_2 : ixN 5 2 = some 2 := rfl
theorem x5_3 : ixN 5 3 = some 3 := rfl
def X5 (L : List D) (i v c t : Int) : List D := [.list L, .int i, .int v, .int c, .int t]
@[simp] theorem X5_0 (L : List D) (i v c t : Int) : atI (X5 L i v c t) 0 = some (.list L) := rfl
@[simp] theorem X5_1 (L : List D) (i v c t : Int) : atI (X5 L i v c t) 1 = some (.int i) := rfl
@[simp] theorem X5_2 (L : List D) (i v c t : Int) : atI (X5 L i v c t) 2 = some (.int v) := rfl
@[simp] theorem X5_3 (L : List D) (i v c t : Int) : atI (X5 L i v c t) 3 = some (.int c) := rfl
@[simp] theorem X5_4 (L : List D) (i v c t : Int) : atI (X5 L i v c t) 4 = some (.int t) := rfl
@[simp] theorem X5_len (L : List D) (i v c t : Int) : (X5 L i v c t).length = 5 := rfl
@[simp] theorem X5_s1 (L : List D) (i v c t j : Int) : (X5 L i v c t).set 1 (.int j) = X5 L j v c t := rfl
@[simp] theorem X5_s2 (L : List D) (i v c t j : Int) : (X5 L i v c t).set 2 (.int j) = X5 L i j c t := rfl
@[simp] theorem X5_s3 (L : List D) (i v c t j : Int) : (X5 L i v c t).set 3 (.int j) = X5 L i v j t := rfl
theorem mod_lt {a m : Int} (h : 0 < m) : 0 ≤ a % m ∧ a % m < m := ⟨Int.emod_nonneg a (by omega), Int.emod_lt_of_pos a h⟩
def MixOk (F : List Sl → RF) : Prop := ∀ cell k : Int, 0 ≤ k → k < 2 ^ 60 → ∃ r, F [.dat (.int cell), .dat (.int k)] = .ok (.int r) []
theorem run_mix (cell k : Int) (h0 : 0 ≤ k) (h1 : k < 2 ^ 60) : ∃ r, run__law_mix [.dat (.int cell), .dat (.int k)] = .ok (.int r) [] := by
  have e1 : CMul 1000003 k := .inl ⟨by decide, by decide⟩
  have e2 : CMul (1000003 * k) k := .inr ⟨by omega, by omega⟩
  have e3 : CMul 7919 k := .inl ⟨by decide, by decide⟩
  have e4 : ∀ x y : Int, CMul (x % 2147483629) y := fun x y => .inl ⟨by have := mod_lt (a := x) (m := 2147483629) (by decide); omega, by have := mod_lt (a := x) (m := 2147483629) (by decide); omega⟩
  have e5 : ∀ x y : Int, CMul (x % 2147483587) y := fun x y => .inl ⟨by have := mod_lt (a := x) (m := 2147483587) (by decide); omega, by have := mod_lt (a := x) (m := 2147483587) (by decide); omega⟩
  have e6 : ∀ x : Int, CDiv x 4 := fun x => ⟨by decide, by decide⟩
  simp [run__law_mix, runF, body__law_mix, sSeq, sSet, sRet, eOp, eVar, eC, e1, e2, e3, e4, e5, e6, outsOf]
theorem mixOk : MixOk (fun a => (run__law_mix a).nox) := fun cell k h0 h1 => by
  obtain ⟨r, h⟩ := run_mix cell k h0 h1
  exact ⟨r, by simp only [h]; rfl⟩
theorem at_map {L : List Int} {i : Nat} (h : i < L.length) : atI (L.map PyData.int) (i : Int) = some (.int L[i]) := by
  unfold atI ixN
  simp [h]
abbrev nE (L : List D) (i v c t m : Int) : En := [.own (some 0) (.lst (X5 L i v c t)), .dat (.int m), .un, .un]
theorem nx_c (L : List D) (i v c t m : Int) : (tAnd (tOf (eOp dEq (eIxOwn 0 (eC (.int 2))) (eC (.int 0)))) (tOf (eOp dLt (eIxOwn 0 (eC (.int 1))) (eCall dLen (aCons (eIxOwn 0 (eC (.int 0))) aNil))))) (nE L i v c t m) = .ok (decide (v = 0) && decide (i < L.length)) (nE L i v c t m) := by
  by_cases h : v = 0
  · simp [tAnd, tOf, eOp, eIxOwn, eC, eCall, aCons, aNil, h]
  · simp [tAnd, tOf, eOp, eIxOwn, eC, eCall, aCons, aNil, h]
theorem nx1 {c_mix : List Sl → RF} (L : List D) (i v c t m : Int) (hv : 0 < v) (hm : 0 < m) (hc : CDiv v m) : runF 4 1 (body__law_next c_mix) [.own (some 0) (.lst (X5 L i v c t)), .dat (.int m)] = .ok (.int (v % m)) [.lst (X5 L i (v / m) c t)] := by
  have hv0 : ¬ v = 0 := by omega
  simp only [runF, body__law_next]
  simp [sSeq, sIf, nx_c, sNx, hv0]
  simp [tOf, sSet, sRet, eOp, eVar, eC, eIxOwn, hv, sSetIx, x5_2, hm, hc, outsOf, ownK]
theorem nx4 {c_mix : List Sl → RF} (L : List D) (i v c t m r : Int) (hv : ¬ 0 < v) (hz : v = 0 → ¬ i < L.length) (hm : 0 < m) (hr : c_mix [.dat (.int t), .dat (.int (c + 1 + 1051))] = .ok (.int r) []) :
    runF 4 1 (body__law_next c_mix) [.own (some 0) (.lst (X5 L i v c t)), .dat (.int m)] = .ok (.int (r % m)) [.lst (X5 L i v (c + 1) t)] := by
  have h1 : (decide (v = 0) && decide (i < (L.length : Int))) = false := by
    by_cases h : v = 0
    · simp [h, hz h]
    · simp [h]
  simp only [runF, body__law_next]
  simp [sSeq, sIf, nx_c, h1, sNx]
  simp [tOf, sSet, sRet, eOp, eVar, eC, eIxOwn, eCall, aCons, aNil, hv, sSetIx, x5_1, x5_2, x5_3, hm, outsOf, ownK, eFn, rCons, rNil, ios, resolve, hr, behind]
theorem cp18 : CPow 10 18 := ⟨by decide, by decide, by decide⟩
theorem nx2 {c_mix : List Sl → RF} (L : List D) (i c t m r cell : Int) (hi : i < L.length) (ha : atI L i = some (.int cell)) (hs : cell < 1000000000000000000) (hm : 0 < m) (hr : c_mix [.dat (.int cell), .dat (.int (i + 1))] = .ok (.int r) []) :
    runF 4 1 (body__law_next c_mix) [.own (some 0) (.lst (X5 L i 0 c t)), .dat (.int m)] = .ok (.int (r % m)) [.lst (X5 L (i + 1) 0 c t)] := by
  simp only [runF, body__law_next]
  simp [sSeq, sIf, nx_c, hi]
  simp [tOf, sSet, sRet, eOp, eVar, eC, eIxOwn, ha, sSetIx, x5_1, hm, outsOf, ownK, eFn, rCons, rNil, ios, resolve, hr, behind, cp18, hs]
theorem nx3 {c_mix : List Sl → RF} (L : List D) (i c t m cell : Int) (hi : i < L.length) (ha : atI L i = some (.int cell)) (hs : ¬ cell < 1000000000000000000) (hm : 0 < m) (hc : CDiv cell m) :
    runF 4 1 (body__law_next c_mix) [.own (some 0) (.lst (X5 L i 0 c t)), .dat (.int m)] = .ok (.int (cell % m)) [.lst (X5 L (i + 1) (cell / m) c t)] := by
  have hp : 0 < cell := by omega
  simp only [runF, body__law_next]
  simp [sSeq, sIf, nx_c, hi]
  simp [tOf, sSet, sRet, eOp, eVar, eC, eIxOwn, ha, sSetIx, x5_1, x5_2, hm, outsOf, ownK, cp18, hs, hp, hc, sNx]
structure DeckOk (b : Nat) (ds : List D) : Prop where
  ex : ∃ (L : List Int) (i : Nat) (v c t : Int), ds = X5 (L.map .int) i v c t ∧ L.length ≤ 63 ∧ i ≤ 63 ∧ 0 ≤ c ∧ c ≤ b
def NextOk (F : List Sl → RF) : Prop := ∀ (b : Nat) (ds : List D) (m : Int), DeckOk b ds → b < 2 ^ 40 → 1 ≤ m → m < 2 ^ 29 →
  ∃ r ds', F [.own (some 0) (.lst ds), .dat (.int m)] = .ok (.int r) [.lst ds'] ∧ 0 ≤ r ∧ r < m ∧ DeckOk (b + 1) ds'
theorem run_next {c_mix : List Sl → RF} (hm : MixOk c_mix) {b : Nat} {ds : List D} {m : Int} (hd : DeckOk b ds) (hb : b < 2 ^ 40) (h1 : 1 ≤ m) (h2 : m < 2 ^ 29) :
    ∃ r ds', runF 4 1 (body__law_next c_mix) [.own (some 0) (.lst ds), .dat (.int m)] = .ok (.int r) [.lst ds'] ∧ 0 ≤ r ∧ r < m ∧ DeckOk (b + 1) ds' := by
  obtain ⟨L, i, v, c, t, rfl, hl, hi, hc, hcb⟩ := hd
  have cd : ∀ x : Int, CDiv x m := fun x => ⟨by omega, by omega⟩
  have m0 : 0 < m := by omega
  by_cases hv : 0 < v
  · exact ⟨v % m, _, nx1 _ _ _ _ _ _ hv m0 (cd _), (mod_lt m0).1, (mod_lt m0).2, L, i, v / m, c, t, rfl, hl, hi, hc, by omega⟩
  · by_cases hv0 : v = 0 ∧ i < L.length
    · obtain ⟨rfl, hil⟩ := hv0
      obtain ⟨r, hr⟩ := hm L[i] ((i : Int) + 1) (by omega) (by omega)
      by_cases hbig : L[i] < 1000000000000000000
      · exact ⟨r % m, _, nx2 _ _ _ _ _ _ _ (by simpa using hil) (at_map hil) hbig m0 hr, (mod_lt m0).1, (mod_lt m0).2, L, i + 1, 0, c, t, rfl, hl, by omega, hc, by omega⟩
      · exact ⟨_, _, nx3 _ _ _ _ _ _ (by simpa using hil) (at_map hil) hbig m0 (cd _), (mod_lt m0).1, (mod_lt m0).2, L, i + 1, _, c, t, rfl, hl, by omega, hc, by omega⟩
    · obtain ⟨r, hr⟩ := hm t (c + 1 + 1051) (by omega) (by omega)
      exact ⟨r % m, _, nx4 _ _ _ _ _ _ _ hv (fun a b => hv0 ⟨a, by simpa using b⟩) m0 hr, (mod_lt m0).1, (mod_lt m0).2, L, i, v, c + 1, t, rfl, hl, hi, by omega, by omega⟩
theorem nextOk : NextOk (fun a => (run__law_next a).nox) := fun b ds m hd hb h1 h2 => by
  obtain ⟨r, ds', h, h3⟩ := run_next mixOk hd hb h1 h2
  exact ⟨r, ds', by simp only [run__law_next, h]; rfl, h3⟩
/-- a draw, wherever it stands -/
theorem draw {N : List Sl → RF} (hN : NextOk N) {b : Nat} {ds : List D} {m : Int} {p : XE} {e : En} {j : Nat} {t : Option Nat} (he : e[j]? = some (.own t (.lst ds))) (hp : p e = .ok (.int m) e) (hd : DeckOk b ds) (hb : b < 2 ^ 40) (h1 : 1 ≤ m) (h2 : m < 2 ^ 29) :
    ∃ r ds', eFn 2 1 N (rIo j (rCons p rNil)) e = .ok (.int r) (e.set j (.own t (.lst ds'))) ∧ 0 ≤ r ∧ r < m ∧ DeckOk (b + 1) ds' := by
  obtain ⟨r, ds', h, h3, h4, h5⟩ := hN _ _ _ hd hb h1 h2
  refine ⟨r, ds', ?_, h3, h4, h5⟩
  simp [eFn, rIo, he, rCons, hp, rNil, ios, resolve, h, behind, putO]
theorem run_deck (ns : List Int) (h : ns.length ≤ 63) : ∃ ds, run__law_deck [.scr (ns.map .int)] = .new ds [] ∧ DeckOk 0 ds := by
  have hc : cutD (ns.map PyData.int) none (some 63) = ns.map .int := by
    unfold cutD
    simp only [HT.sIx, List.drop_zero]
    rw [List.take_of_length_le]
    simp
    omega
  refine ⟨X5 (ns.map .int) 0 0 0 ns.sum, ?_, ns, 0, 0, 0, ns.sum, rfl, h, by omega, by omega, by omega⟩
  simp [run__law_deck, runF, body__law_deck, sRetN, nLst, aCons, eNew, nSlScr, oNone, oSome, eC, aNil, hc, eCall, outsOf, X5, show 5 ≤ sizeLine by decide]

/-! ### bits and faces -/
def BitsOk (F : List Sl → RF) : Prop := ∀ (b : Nat) (ds : List D), DeckOk b ds → b < 2 ^ 39 → ∃ (n : Nat) (ds' : List D), F [.own (some 0) (.lst ds)] = .ok (.int n) [.lst ds'] ∧ 1 ≤ n ∧ n ≤ 6 ∧ DeckOk (b + 3) ds'
theorem run_bits {N : List Sl → RF} (hN : NextOk N) {b : Nat} {ds : List D} (hd : DeckOk b ds) (hb : b < 2 ^ 39) : ∃ (n : Nat) (ds' : List D), runF 1 1 (body__law_bits N) [.own (some 0) (.lst ds)] = .ok (.int n) [.lst ds'] ∧ 1 ≤ n ∧ n ≤ 6 ∧ DeckOk (b + 3) ds' := by
  obtain ⟨r1, d1, q1, l1, u1, h1⟩ := draw hN (e := [.own (some 0) (.lst ds)]) (j := 0) (m := 6) (p := eC (.int 6)) rfl rfl hd (by omega) (by omega) (by omega)
  obtain ⟨r2, d2, q2, l2, u2, h2⟩ := draw hN (e := [.own (some 0) (.lst d1)]) (j := 0) (m := 3) (p := eC (.int 3)) rfl rfl h1 (by omega) (by omega) (by omega)
  obtain ⟨r3, d3, q3, l3, u3, h3⟩ := draw hN (e := [.own (some 0) (.lst d2)]) (j := 0) (m := 3) (p := eC (.int 3)) rfl rfl h2 (by omega) (by omega) (by omega)
  have z : ∀ x : Int, atI [PyData.int (1 + r1), .int 6, .int (1 + r2)] r3 = some (.int x) → 1 ≤ x ∧ x ≤ 6 → ∃ (n : Nat) (ds' : List D), runF 1 1 (body__law_bits N) [.own (some 0) (.lst ds)] = .ok (.int n) [.lst ds'] ∧ 1 ≤ n ∧ n ≤ 6 ∧ DeckOk (b + 3) ds' := fun x hx hr => by
    refine ⟨x.toNat, d3, ?_, by omega, by omega, h3⟩
    have ex : ((x.toNat : Nat) : Int) = x := by omega
    simp only [List.set_cons_zero] at q1 q2 q3
    simp [runF, body__law_bits, sRet, eOp, eCall, aCons, aNil, q1, q2, q3, eC, gLst, show 3 ≤ sizeLine by decide, hx, outsOf, ownK, ex]
  have : r3 = 0 ∨ r3 = 1 ∨ r3 = 2 := by omega
  rcases this with rfl | rfl | rfl
  · exact z (1 + r1) rfl (by omega)
  · exact z 6 rfl (by omega)
  · exact z (1 + r2) rfl (by omega)
theorem bitsOk : BitsOk (fun a => (run__law_bits a).nox) := fun b ds hd hb => by
  obtain ⟨n, ds', h, h3⟩ := run_bits nextOk hd hb
  exact ⟨n, ds', by simp only [run__law_bits, h]; rfl, h3⟩
theorem at_nat {α : Type} {l : List α} {r : Int} (h0 : 0 ≤ r) (h1 : r < l.length) : ∃ x, l[r.toNat]? = some x ∧ atI l r = some x := by
  have : r.toNat < l.length := by omega
  exact ⟨l[r.toNat], List.getElem?_eq_getElem this, by unfold atI ixN; rw [if_pos h0, if_pos h1]; exact List.getElem?_eq_getElem this⟩
theorem face_go {N : List Sl → RF} (hN : NextOk N) {s : List Nat} (hs : Signs s) (h1 : 1 ≤ s.length) (h2 : s.length ≤ 9) (x1 x2 : Sl) : ∀ (items : List D) (b : Nat) (ds acc : List D), DeckOk b ds → b + items.length < 2 ^ 39 →
    ∃ l ds', lcGo (gN 4) (fun e => R.ok true e) (eOp dIx (eVar 3) (eFn 2 1 N (rIo 0 (rCons (eCall dLen (aCons (eVar 3) aNil)) rNil)))) [4] items [.own (some 0) (.lst ds), x1, x2, .dat (.str (tx s)), .un] acc =
      .ok (acc ++ l.map fun c => .str (tx [c])) [.own (some 0) (.lst ds'), x1, x2, .dat (.str (tx s)), .un] ∧ l.length = items.length ∧ Signs l ∧ DeckOk (b + items.length) ds'
  | [], b, ds, acc, hd, _ => ⟨[], ds, by simp [lcGo], rfl, fun _ h => by simp at h, hd⟩
  | d :: items, b, ds, acc, hd, hb => by
    have hb' : b + (items.length + 1) < 2 ^ 39 := hb
    have sz : s.length ≤ sizeLine := Nat.le_trans h2 (by decide)
    obtain ⟨r, d1, q1, l1, u1, g1⟩ := draw hN (e := [.own (some 0) (.lst ds), x1, x2, .dat (.str (tx s)), .dat d]) (j := 0) (m := s.length) (p := eCall dLen (aCons (eVar 3) aNil)) rfl (by simp [eCall, aCons, aNil, eVar, sz]) hd (by omega) (by omega) (by omega)
    obtain ⟨c, hc, hr⟩ := at_nat (l := s) l1 (by omega)
    obtain ⟨l, ds', h, hl, hsl, hd'⟩ := face_go hN hs h1 h2 x1 x2 items (b + 1) d1 (acc ++ [.str (tx [c])]) g1 (by omega)
    refine ⟨c :: l, ds', ?_, by simp [hl], fun x hx => ?_, ?_⟩
    · simp only [List.set_cons_zero] at q1
      simp [lcGo, gN, eOp, eVar, q1, sz, hr, R.noex, wipeE, tx_one, h]
    · rcases List.mem_cons.mp hx with rfl | hx
      · exact hs x (List.mem_of_getElem? hc)
      · exact hsl x hx
    · have e : b + 1 + items.length = b + (items.length + 1) := by omega
      rw [e] at hd'
      exact hd'
def FaceOk (F : List Sl → RF) : Prop := ∀ (b : Nat) (ds : List D) (n : Nat), DeckOk b ds → b < 2 ^ 38 → 1 ≤ n → n ≤ 6 →
  ∃ (f : List Nat) (ds' : List D), F [.own (some 0) (.lst ds), .dat (.int n)] = .ok (.str (tx f)) [.lst ds'] ∧ f.length = n ∧ Signs f ∧ DeckOk (b + 7) ds'
theorem run_face {N : List Sl → RF} (hN : NextOk N) {b : Nat} {ds : List D} {n : Nat} (hd : DeckOk b ds) (hb : b < 2 ^ 38) (h1 : 1 ≤ n) (h6 : n ≤ 6) : ∃ (f : List Nat) (ds' : List D), runF 5 1 (body__law_face N) [.own (some 0) (.lst ds), .dat (.int n)] = .ok (.str (tx f)) [.lst ds'] ∧ f.length = n ∧ Signs f ∧ DeckOk (b + 7) ds' := by
  obtain ⟨r1, d1, q1, l1, u1, g1⟩ := draw hN (e := [.own (some 0) (.lst ds), .dat (.int n), .un, .un, .un]) (j := 0) (m := 5) (p := eC (.int 5)) rfl rfl hd (by omega) (by omega) (by omega)
  simp only [List.set_cons_zero] at q1
  have z : ∀ s : List Nat, Signs s → 1 ≤ s.length → s.length ≤ 9 → dIx (.list [.str (Str.ofString "01*"), .str (Str.ofString "01"), .str (Str.ofString "*"), .str (Str.ofString "01010101*"), .str (Str.ofString "01****")]) (.int r1) = some (.str (tx s)) →
      ∃ (f : List Nat) (ds' : List D), runF 5 1 (body__law_face N) [.own (some 0) (.lst ds), .dat (.int n)] = .ok (.str (tx f)) [.lst ds'] ∧ f.length = n ∧ Signs f ∧ DeckOk (b + 7) ds' := fun s hs s1 s2 ha => by
    obtain ⟨l, ds', h, hl, hsl, hd'⟩ := face_go hN hs s1 s2 (.dat (.int n)) (.dat (.int r1)) (rgD 0 n) (b + 1) d1 [] g1 (by simp [rgD]; omega)
    have hlen : (rgD 0 n).length = n := by simp
    have hj2 : dJoin (.str (Str.ofString "")) [.list (l.map fun c => .str (tx [c]))] = some (.str (tx l)) := by
      rw [show Str.ofString "" = tx [] by decide +kernel]; exact join_signs (l := l) (by omega)
    refine ⟨l, ds', ?_, by omega, hsl, ?_⟩
    · have hr1 : rg1 [.int n] = some (rgD 0 n) := rg1_nat (by omega)
      have sz : (rgD 0 n).length < sizeLine := lt_line (by omega)
      refine run_rt (e := [.own (some 0) (.lst ds'), .dat (.int n), .dat (.int r1), .dat (.str (tx s)), .un]) ?_ rfl
      refine ss_seq (ss_setD q1) ?_
      refine ss_seq (ss_setD (st_op (st_call (st_ac st_c (st_ac st_c (st_ac st_c (st_ac st_c (st_ac st_c st_an))))) (if_pos (by decide))) (st_var rfl) ha)) ?_
      exact ss_rt (st_meth st_c rfl (st_ac (st_new (nl_lc (it_args (st_ac (st_var rfl) st_an) hr1) sz h)) st_an) hj2)
    · have e : b + 1 + (rgD 0 n).length ≤ b + 7 := by omega
      obtain ⟨L, i, v, c, t, k1, k2, k3, k4, k5⟩ := hd'
      exact ⟨L, i, v, c, t, k1, k2, k3, k4, by omega⟩
  have : r1 = 0 ∨ r1 = 1 ∨ r1 = 2 ∨ r1 = 3 ∨ r1 = 4 := by omega
  rw [s_01s, s_01, s_s, s_w3, s_w4] at z
  rcases this with rfl | rfl | rfl | rfl | rfl
  · exact z [48, 49, 42] (by unfold Signs; decide) (by decide) (by decide) rfl
  · exact z [48, 49] (by unfold Signs; decide) (by decide) (by decide) rfl
  · exact z [42] (by unfold Signs; decide) (by decide) (by decide) rfl
  · exact z [48, 49, 48, 49, 48, 49, 48, 49, 42] (by unfold Signs; decide) (by decide) (by decide) rfl
  · exact z [48, 49, 42, 42, 42, 42] (by unfold Signs; decide) (by decide) (by decide) rfl
theorem faceOk : FaceOk (fun a => (run__law_face a).nox) := fun b ds n hd hb h1 h6 => by
  obtain ⟨f, ds', h, h3⟩ := run_face nextOk hd hb h1 h6
  exact ⟨f, ds', by simp only [run__law_face, h]; rfl, h3⟩
end G
set_option linter.all false
set_option maxRecDepth 100000
namespace G
open PySem PySem.Spec PyProof.Rows L2
def txs (b : List (List Nat)) : List D := b.map fun l => .str (tx l)
@[simp] theorem txs_len (b : List (List Nat)) : (txs b).length = b.length := by simp [txs]
theorem co_in1 (a0 a1 a2 a3 : Sl) (s : List Nat) (hs : s.length ≤ 1000) : ∀ (cs : List Nat) (acc : List D), lcGo (gN 5) (fun e => R.ok true e) (eOp dAdd (eVar 4) (eVar 5)) [5] (cs.map fun x => .str (tx [x])) [a0, a1, a2, a3, .dat (.str (tx s)), .un] acc =
    .ok (acc ++ txs (cs.map fun x => s ++ [x])) [a0, a1, a2, a3, .dat (.str (tx s)), .un]
  | [], acc => by simp [lcGo, txs]
  | c :: cs, acc => by
    refine lc_yes (y := .str (tx (s ++ [c]))) (e1 := [a0, a1, a2, a3, .dat (.str (tx s)), .dat (.str (tx [c]))]) rfl rfl (st_op (st_var rfl) (st_var rfl) (dAdd_tx (by simp; omega))) ?_
    refine (co_in1 a0 a1 a2 a3 s hs cs _).trans ?_
    simp [txs]
theorem co_in2 (a0 a1 a2 : Sl) (cs : List Nat) (m : Nat) (hm : m ≤ 1000) : ∀ (b : List (List Nat)) (acc : List D), (∀ l ∈ b, l.length = m) → acc.length + b.length * cs.length + cs.length ≤ 1000000 →
    lc2Go (gN 4) (fun e => R.ok true e) (iOf (eVar 3)) (gN 5) (fun e => R.ok true e) (eOp dAdd (eVar 4) (eVar 5)) [4, 5] [5] (txs b) [a0, a1, a2, .dat (.str (tx cs)), .un, .un] acc =
      .ok (acc ++ txs (b.flatMap fun s => cs.map fun x => s ++ [x])) [a0, a1, a2, .dat (.str (tx cs)), .un, .un]
  | [], acc, _, _ => by simp [lc2Go, txs]
  | l :: b, acc, hl, hb => by
    have hb' : acc.length + (b.length * cs.length + cs.length) + cs.length ≤ 1000000 := by
      have : (b.length + 1) * cs.length = b.length * cs.length + cs.length := Nat.succ_mul _ _
      simp only [List.length_cons] at hb
      omega
    refine lc2_yes (e1 := [a0, a1, a2, .dat (.str (tx cs)), .dat (.str (tx l)), .un]) rfl rfl (it_of (st_var rfl) (iD_tx cs)) (by rw [List.length_map]; exact lt_line (by omega)) (co_in1 a0 a1 a2 _ l (by rw [hl l (by simp)]; exact hm) cs acc) ?_
    refine (co_in2 a0 a1 a2 cs m hm b _ (fun x hx => hl x (by simp [hx])) ?_).trans ?_
    · simp [txs]; omega
    · simp [txs, List.flatMap_cons]
def CorOk (F : List Sl → RF) : Prop := ∀ f : List Nat, Signs f → f.length ≤ 6 → F [.dat (.str (tx f))] = .ok (.tuple (txs (cor f))) []
theorem fs_len {b : List (List Nat)} {m c : Nat} (h : ∀ l ∈ b, l.length = m) : ∀ l ∈ fstep b c, l.length = m + 1 := by
  intro l hl
  simp only [fstep, List.mem_flatMap, List.mem_map] at hl
  obtain ⟨s, hs, x, _, rfl⟩ := hl
  simp [h s hs]
theorem fs_cnt (b : List (List Nat)) (c : Nat) : (fstep b c).length ≤ 2 * b.length := by
  unfold fstep
  induction b with
  | nil => simp
  | cons a r ih =>
    simp only [List.flatMap_cons, List.length_append, List.length_map, List.length_cons]
    have : (ch c).length ≤ 2 := by unfold ch; split <;> simp
    omega
theorem co_go (F : Sl) : ∀ (f : List Nat) (b : List (List Nat)) (m : Nat) (x2 x3 : Sl), Signs f → (∀ l ∈ b, l.length = m) → m + f.length ≤ 900 → f.length ≤ 6 → b.length * 2 ^ f.length ≤ 1000 → ∃ x2' x3',
    forD (gN 2) (sSeq (sSet 3 (eIf (tOf (eOp dEq (eVar 2) (eC (.str (Str.ofString "*"))))) (eC (.str (Str.ofString "01"))) (eVar 2)))
      (sSet 1 (eNew (nLc2 (iOf (eVar 1)) (gN 4) (fun e => R.ok true e) (iOf (eVar 3)) (gN 5) (fun e => R.ok true e) (eOp dAdd (eVar 4) (eVar 5)) [4, 5] [5])))) (f.map fun c => .str (tx [c]))
      [F, .dat (.list (txs b)), x2, x3, .un, .un] = .ok .nx [F, .dat (.list (txs (f.foldl fstep b))), x2', x3', .un, .un]
  | [], b, m, x2, x3, _, _, _, _, _ => ⟨x2, x3, rfl⟩
  | c :: f, b, m, x2, x3, hs, hl, hm, h6, hb => by
    have hp : b.length * 2 ^ (f.length + 1) ≤ 1000 := hb
    have hp' : (fstep b c).length * 2 ^ f.length ≤ 1000 := by
      have h := Nat.mul_le_mul_right (2 ^ f.length) (fs_cnt b c)
      have e : b.length * 2 ^ (f.length + 1) = 2 * b.length * 2 ^ f.length := by rw [Nat.pow_succ]; simp only [Nat.mul_comm, Nat.mul_left_comm, Nat.mul_assoc]
      omega
    have hb1 : b.length ≤ 1000 := by
      have h := Nat.mul_le_mul_left b.length (Nat.one_le_two_pow (n := f.length + 1))
      omega
    have h6' : f.length + 1 ≤ 6 := h6
    obtain ⟨y2, y3, ih⟩ := co_go F f (fstep b c) (m + 1) (.dat (.str (tx [c]))) (.dat (.str (tx (ch c)))) (fun x hx => hs x (by simp [hx])) (fs_len hl) (by simp only [List.length_cons] at hm; omega) (by omega) hp'
    refine ⟨y2, y3, ?_⟩
    have hc : (ch c).length ≤ 2 := by unfold ch; split <;> simp
    have hif : eIf (tOf (eOp dEq (eVar 2) (eC (.str (Str.ofString "*"))))) (eC (.str (Str.ofString "01"))) (eVar 2) [F, .dat (.list (txs b)), .dat (.str (tx [c])), x3, .un, .un] = .ok (.str (tx (ch c))) [F, .dat (.list (txs b)), .dat (.str (tx [c])), x3, .un, .un] := by
      have ht : tOf (eOp dEq (eVar 2) (eC (.str (Str.ofString "*")))) [F, .dat (.list (txs b)), .dat (.str (tx [c])), x3, .un, .un] = .ok (decide (c = 42)) [F, .dat (.list (txs b)), .dat (.str (tx [c])), x3, .un, .un] :=
        tt_of (st_op (st_var rfl) st_c (by rw [s_s, dEq_str]; simp))
      unfold eIf
      rw [ht]
      by_cases h : c = 42
      · subst h
        rw [s_01]; rfl
      · have e : decide (c = 42) = false := decide_eq_false h
        rw [e]
        have e2 : ch c = [c] := by unfold ch; rw [if_neg h]
        rw [e2]; rfl
    refine fd_nx (e1 := [F, .dat (.list (txs b)), .dat (.str (tx [c])), x3, .un, .un]) rfl (ss_seq (ss_setD hif) (ss_setD (st_new (nl_lc2 (it_of (st_var rfl) (iD_list _)) (co_in2 F _ _ (ch c) m (by omega) b [] hl ?_))))) ih
    have : b.length * (ch c).length ≤ 1000 * 2 := Nat.mul_le_mul hb1 hc
    simp only [List.length_nil]
    omega
theorem corOk : CorOk (fun a => (run_corners_of a).nox) := fun f hs h6 => by
  obtain ⟨x2, x3, h⟩ := co_go (.dat (.str (tx f))) f [[]] 0 .un .un hs (by simp) (by omega) h6 (by
    have : 2 ^ f.length ≤ 2 ^ 6 := Nat.pow_le_pow_right (by decide) h6
    simp only [List.length_cons, List.length_nil]
    omega)
  rw [fold_cor0] at h
  have hr : run_corners_of [.dat (.str (tx f))] = .ok (.tuple (txs (cor f))) [] := by
    refine run_rt (e := [.dat (.str (tx f)), .dat (.list (txs (cor f))), x2, x3, .un, .un]) ?_ rfl
    refine ss_seq (ss_setD (st_call (st_ac st_c st_an) (if_pos (by decide)))) ?_
    refine ss_seq (ss_forD (it_of (st_var rfl) (iD_tx f)) h) ?_
    exact ss_rt (st_call (st_ac (st_var rfl) st_an) rfl)
  simp only [hr]; rfl
end G
set_option linter.all false
set_option maxRecDepth 100000
namespace G
open PySem PySem.Spec PyProof.Rows L2
theorem ss_asgD {t : XG} {p : XE} {e e1 e2 : En} {d : D} (h : p e = .ok d e1) (h2 : t d e1 = some e2) : sAsg t p e = .ok .nx e2 := by unfold sAsg; rw [h]; show (match t d e1 with | some e' => R.ok Fl.nx e' | none => .bad) = _; rw [h2]
theorem st_bits {p : XE} {e e1 : En} {i : Int} (h : p e = .ok (.int i) e1) : eBits p e = .ok (.int (Builtin.Int.intBits i : Nat)) e1 := by unfold eBits; rw [h]; rfl
theorem eif_t {t : XT} {p q : XE} {e e1 : En} {r : R D} (h : t e = .ok true e1) (h2 : p e1 = r) : eIf t p q e = r := by unfold eIf; rw [h]; exact h2
theorem eif_f {t : XT} {p q : XE} {e e1 : En} {r : R D} (h : t e = .ok false e1) (h2 : q e1 = r) : eIf t p q e = r := by unfold eIf; rw [h]; exact h2
theorem fl_txs (cs : List (List Nat)) : (txs cs).all flD = true := by induction cs <;> simp_all [txs, flD]
theorem any_txs (l : List Nat) : ∀ cs : List (List Nat), ((txs cs).any fun y => eqS y (.str (tx l))) = decide (l ∈ cs)
  | [] => rfl
  | a :: r => by
    have e : eqS (.str (tx a)) (.str (tx l)) = decide (a = l) := by
      show (tx a == tx l) = _
      rw [Bool.eq_iff_iff, beq_iff_eq, decide_eq_true_iff, tx_inj]
    have h : (eqS (.str (tx a)) (.str (tx l)) || ((txs r).any fun y => eqS y (.str (tx l)))) = decide (l ∈ a :: r) := by
      rw [e, any_txs l r]
      by_cases h : a = l
      · subst h; simp
      · have h' : ¬ l = a := fun q => h q.symm
        simp [h, h']
    exact h
theorem dIn_txs (l : List Nat) (cs : List (List Nat)) : dIn (.str (tx l)) (.tuple (txs cs)) = some (.bool (decide (l ∈ cs))) := by
  show dInQ false _ _ = _
  unfold dInQ
  rw [if_pos ⟨rfl, fl_txs cs⟩, any_txs]
  rfl
theorem stars {n : Nat} (h1 : 1 ≤ n) (h6 : n ≤ 6) : dMulS (.str (Str.ofString "*")) (.int n) = some (.str (tx (List.replicate n 42))) := by
  rw [s_s]
  have : n = 1 ∨ n = 2 ∨ n = 3 ∨ n = 4 ∨ n = 5 ∨ n = 6 := by omega
  rcases this with rfl | rfl | rfl | rfl | rfl | rfl <;> rfl
theorem sg_rep (n : Nat) : Signs (List.replicate n 42) := fun c h => .inr (.inr (List.eq_of_mem_replicate h))
def markOf (cs b : List (List Nat)) : List Nat := b.map fun l => if l ∈ cs then 49 else 48
end G
set_option linter.all false
set_option maxRecDepth 100000
namespace G
open PySem PySem.Spec PyProof.Rows L2
def allC (n : Nat) : List (List Nat) := (List.range (2 ^ n)).map (bitsOf n)
theorem dStr_bit {b : Nat} (h : b = 0 ∨ b = 1) : dStr [.int (b : Nat)] = some (.str (tx [48 + b])) := by
  rcases h with rfl | rfl
  · show (if (0 : Int).natAbs.log2 < 1920 then some (PyData.str (Str.ofString (toString (0 : Int)))) else none) = _
    rw [if_pos (by decide), show Str.ofString (toString (0 : Int)) = tx [48] by decide +kernel]
  · show (if (1 : Int).natAbs.log2 < 1920 then some (PyData.str (Str.ofString (toString (1 : Int)))) else none) = _
    rw [if_pos (by decide), show Str.ofString (toString (1 : Int)) = tx [49] by decide +kernel]
theorem all_in (n k : Nat) (a1 : Sl) : ∀ (ps : List Nat) (acc : List D), (∀ p ∈ ps, p < n) →
    lcGo (gN 3) (fun e => R.ok true e) (eCall dStr (aCons (eOp dAnd (eOp dShr (eVar 2) (eOp dSub (eOp dSub (eVar 0) (eC (.int 1))) (eVar 3))) (eC (.int 1))) aNil)) [3] (ps.map fun p => .int (p : Nat)) [.dat (.int n), a1, .dat (.int k), .un] acc =
      .ok (acc ++ (ps.map fun p => 48 + k / 2 ^ (n - 1 - p) % 2).map fun c => .str (tx [c])) [.dat (.int n), a1, .dat (.int k), .un]
  | [], acc, _ => by simp [lcGo]
  | p :: ps, acc, h => by
    have hp := h p (by simp)
    have hk : ((k : Int) / 2 ^ ((n : Int) - 1 - (p : Int)).toNat) = ((k / 2 ^ (n - 1 - p) : Nat) : Int) := by
      have e : ((n : Int) - 1 - (p : Int)).toNat = n - 1 - p := by omega
      rw [e]; simp
    refine lc_yes (e1 := [.dat (.int n), a1, .dat (.int k), .dat (.int p)]) (y := .str (tx [48 + k / 2 ^ (n - 1 - p) % 2])) rfl rfl (st_call (st_ac (st_op (st_op (st_var rfl) (st_op (st_op (st_var rfl) st_c rfl) (st_var rfl) rfl) (by rw [dShr_int, if_pos (by omega), hk])) st_c (by rw [dAnd_int, bitAnd1])) st_an) (dStr_bit (by omega))) (Eq.trans (all_in n k a1 ps _ fun q hq => h q (by simp [hq])) ?_)
    simp
theorem all_go (n : Nat) (h6 : n ≤ 6) : ∀ (ks : List Nat) (done : List (List Nat)) (x2 : Sl), done.length + ks.length ≤ 1000 → ∃ y2,
    forD (gN 2) (sExpr (eMut 1 mAppend (aCons (eMeth isStr dJoin (eC (.str (Str.ofString ""))) (aCons (eNew (nLc (iArgs rg1 (aCons (eVar 0) aNil)) (gN 3) (fun e => R.ok true e) (eCall dStr (aCons (eOp dAnd (eOp dShr (eVar 2) (eOp dSub (eOp dSub (eVar 0) (eC (.int 1))) (eVar 3))) (eC (.int 1))) aNil)) [3])) aNil)) aNil))) (ks.map fun k => .int (k : Nat)) [.dat (.int n), .own none (.lst (txs done)), x2, .un] =
      .ok .nx [.dat (.int n), .own none (.lst (txs (done ++ ks.map (bitsOf n)))), y2, .un]
  | [], done, x2, _ => ⟨x2, by simp [forD]⟩
  | k :: ks, done, x2, hb => by
    obtain ⟨y2, ih⟩ := all_go n h6 ks (done ++ [bitsOf n k]) (.dat (.int k)) (by simp at hb ⊢; omega)
    have hl : (bitsOf n k).length = n := by simp [bitsOf]
    have hj : dJoin (.str (Str.ofString "")) [.list ((bitsOf n k).map fun c => .str (tx [c]))] = some (.str (tx (bitsOf n k))) := by rw [s_e]; exact join_signs (by omega)
    have hi := all_in n k (.own none (.lst (txs done))) (List.range n) [] (by simp)
    rw [← rgD_nat'] at hi
    refine ⟨y2, fd_nx (e1 := [.dat (.int n), .own none (.lst (txs done)), .dat (.int k), .un]) (e2 := [.dat (.int n), .own none (.lst (txs (done ++ [bitsOf n k]))), .dat (.int k), .un]) rfl ?_ ?_⟩
    · have e : txs (done ++ [bitsOf n k]) = txs done ++ [.str (tx (bitsOf n k))] := by simp [txs]
      rw [e]
      refine ss_exp (ss_mut (e1 := [.dat (.int n), .own none (.lst (txs done)), .dat (.int k), .un]) rfl (st_ac (st_meth st_c rfl (st_ac (st_new (nl_lc (it_args (st_ac (st_var rfl) st_an) (rg1_nat (by omega))) (by rw [rgD_len]; exact lt_line (by omega)) hi)) st_an) hj) st_an) rfl (if_pos (by rw [txs_len]; exact lt_line (by simp at hb; omega))))
    · rw [ih]; simp
def AllOk (F : List Sl → RF) : Prop := ∀ n : Nat, n ≤ 6 → F [.dat (.int n)] = .ok (.list (txs (allC n))) []
theorem allOk : AllOk (fun a => (run__law_all a).nox) := fun n h6 => by
  have hp : 2 ^ n ≤ 2 ^ 6 := Nat.pow_le_pow_right (by decide) h6
  obtain ⟨y2, h⟩ := all_go n h6 (List.range (2 ^ n)) [] .un (by simp; omega)
  rw [List.nil_append, ← rgD_nat'] at h
  have hr : run__law_all [.dat (.int n)] = .ok (.list (txs (allC n))) [] := by
    refine run_rt (os := []) (e := [.dat (.int n), .dat (.list (txs (allC n))), y2, .un]) ?_ rfl
    refine ss_seq (ss_ownD (nl_lst st_an (by decide))) ?_
    refine ss_seq (ss_forD (it_args (st_ac (st_op st_c (st_var rfl) (d := .int (2 ^ n : Nat)) ?_) st_an) (rg1_nat (by omega))) h) ?_
    · rw [dShl_int, if_pos ⟨by omega, by omega, by decide⟩]; simp
    exact ss_rt (st_varO rfl)
  simp only [hr]; rfl
theorem at_app (a : List Nat) (c : Nat) (r : List Nat) (h : (a ++ c :: r).length ≤ 100) : dIx (.str (tx (a ++ c :: r))) (.int a.length) = some (.str (tx [c])) := by
  rw [dIx_str, if_pos (by rw [tx_len]; exact le_line (by omega)), tx_cps]
  unfold atI ixN
  rw [if_pos (by omega), if_pos (by simp; omega)]
  simp [tx_one]
theorem lies_go : ∀ (fs ls fp lp : List Nat) (x : Sl), fp.length = lp.length → fs.length = ls.length → (fp ++ fs).length ≤ 100 →
    ∃ y, forD (gN 2) (sIf (tAnd (tOf (eOp dNe (eOp dIx (eVar 0) (eVar 2)) (eC (.str (Str.ofString "*"))))) (tOf (eOp dNe (eOp dIx (eVar 0) (eVar 2)) (eOp dIx (eVar 1) (eVar 2))))) (sRet (eC (.bool false))) sNx) ((List.range' fp.length fs.length).map fun p => .int (p : Nat)) [.dat (.str (tx (fp ++ fs))), .dat (.str (tx (lp ++ ls))), x] =
      (if mat fs ls = true then .ok .nx [.dat (.str (tx (fp ++ fs))), .dat (.str (tx (lp ++ ls))), y] else .ok (.rt (.bool false)) [.dat (.str (tx (fp ++ fs))), .dat (.str (tx (lp ++ ls))), y])
  | [], ls, fp, lp, x, _, _, _ => ⟨x, by simp [forD, mat]⟩
  | c :: fs, [], fp, lp, x, _, h, _ => by simp at h
  | c :: fs, d :: ls, fp, lp, x, h1, h2, h3 => by
    have i1 : dIx (.str (tx (fp ++ c :: fs))) (.int fp.length) = some (.str (tx [c])) := at_app fp c fs h3
    have i2 : dIx (.str (tx (lp ++ d :: ls))) (.int fp.length) = some (.str (tx [d])) := by
      rw [h1]; exact at_app lp d ls (by simp at h2 h3 ⊢; omega)
    have ih := lies_go fs ls (fp ++ [c]) (lp ++ [d]) (.dat (.int fp.length)) (by simp [h1]) (by simpa using h2) (by simpa using h3)
    simp only [List.append_assoc, List.singleton_append, List.length_append, List.length_cons, List.length_nil] at ih
    obtain ⟨y, ih⟩ := ih
    have t1 : tOf (eOp dNe (eOp dIx (eVar 0) (eVar 2)) (eC (.str (Str.ofString "*")))) [.dat (.str (tx (fp ++ c :: fs))), .dat (.str (tx (lp ++ d :: ls))), .dat (.int fp.length)] = .ok (!decide (c = 42)) [.dat (.str (tx (fp ++ c :: fs))), .dat (.str (tx (lp ++ d :: ls))), .dat (.int fp.length)] :=
      tt_of (st_op (st_op (st_var rfl) (st_var rfl) i1) st_c (by rw [s_s, dNe_str]; simp))
    have t2 : tOf (eOp dNe (eOp dIx (eVar 0) (eVar 2)) (eOp dIx (eVar 1) (eVar 2))) [.dat (.str (tx (fp ++ c :: fs))), .dat (.str (tx (lp ++ d :: ls))), .dat (.int fp.length)] = .ok (!decide (c = d)) [.dat (.str (tx (fp ++ c :: fs))), .dat (.str (tx (lp ++ d :: ls))), .dat (.int fp.length)] :=
      tt_of (st_op (st_op (st_var rfl) (st_var rfl) i1) (st_op (st_var rfl) (st_var rfl) i2) (by rw [dNe_str]; simp))
    have hr : (List.range' fp.length (c :: fs).length).map (fun p => PyData.int (p : Nat)) = .int fp.length :: (List.range' (fp.length + 1) fs.length).map (fun p => PyData.int (p : Nat)) := by
      simp [List.range'_succ]
    rw [hr]
    by_cases hc : c = 42
    · rw [show (!decide (c = 42)) = false by simp [hc]] at t1
      refine ⟨y, fd_nx (e1 := [.dat (.str (tx (fp ++ c :: fs))), .dat (.str (tx (lp ++ d :: ls))), .dat (.int fp.length)]) rfl (ss_iff (tt_and_f t1) ss_nx) (ih.trans ?_)⟩
      have : mat (c :: fs) (d :: ls) = mat fs ls := by simp [mat, hc]
      rw [this]
    · rw [show (!decide (c = 42)) = true by simp [hc]] at t1
      by_cases hd : c = d
      · rw [show (!decide (c = d)) = false by simp [hd]] at t2
        refine ⟨y, fd_nx (e1 := [.dat (.str (tx (fp ++ c :: fs))), .dat (.str (tx (lp ++ d :: ls))), .dat (.int fp.length)]) rfl (ss_iff (tt_and_t t1 t2) ss_nx) (ih.trans ?_)⟩
        have : mat (c :: fs) (d :: ls) = mat fs ls := by simp [mat, hd]
        rw [this]
      · rw [show (!decide (c = d)) = true by simp [hd]] at t2
        have : mat (c :: fs) (d :: ls) = false := by simp [mat, hc, hd]
        rw [this]
        exact ⟨.dat (.int fp.length), fd_rt (e1 := [.dat (.str (tx (fp ++ c :: fs))), .dat (.str (tx (lp ++ d :: ls))), .dat (.int fp.length)]) rfl (ss_ift (tt_and_t t1 t2) (ss_rt st_c))⟩
def LiesOk (F : List Sl → RF) : Prop := ∀ f l : List Nat, f.length = l.length → f.length ≤ 6 → F [.dat (.str (tx f)), .dat (.str (tx l))] = .ok (.bool (mat f l)) []
theorem liesOk : LiesOk (fun a => (run__law_lies a).nox) := fun f l h h6 => by
  obtain ⟨y, hf⟩ := lies_go f l [] [] .un rfl h (by simpa using (by omega : f.length ≤ 100))
  simp only [List.nil_append, List.length_nil] at hf
  rw [← List.range_eq_range', ← rgD_nat'] at hf
  have hr : run__law_lies [.dat (.str (tx f)), .dat (.str (tx l))] = .ok (.bool (mat f l)) [] := by
    have it : iArgs rg1 (aCons (eCall dLen (aCons (eVar 0) aNil)) aNil) [.dat (.str (tx f)), .dat (.str (tx l)), .un] = .ok (rgD 0 f.length) [.dat (.str (tx f)), .dat (.str (tx l)), .un] :=
      it_args (st_ac (st_call (st_ac (st_var rfl) st_an) (by rw [dLen_str, if_pos (le_line (by rw [tx_len]; omega))])) st_an) (by rw [tx_len]; exact rg1_nat (by omega))
    cases hm : mat f l with
    | true =>
      rw [if_pos hm] at hf
      exact run_rt (os := []) (e := [.dat (.str (tx f)), .dat (.str (tx l)), y]) (ss_seq (ss_forD it hf) (ss_rt st_c)) rfl
    | false =>
      rw [if_neg (by rw [hm]; decide)] at hf
      exact run_rt (os := []) (e := [.dat (.str (tx f)), .dat (.str (tx l)), y]) (ss_seqR (ss_forD it hf)) rfl
  simp only [hr]; rfl
end G
set_option linter.all false
set_option maxRecDepth 100000
namespace G
open PySem PySem.Spec PyProof.Rows L2
/-! the drawn set -/
theorem dk_up {b c : Nat} {ds : List D} (h : DeckOk b ds) (hc : b ≤ c) : DeckOk c ds := by
  obtain ⟨L, i, v, x, t, k1, k2, k3, k4, k5⟩ := h
  exact ⟨L, i, v, x, t, k1, k2, k3, k4, by omega⟩
def eS (ds : List D) (x1 x2 x3 x4 x5 x6 x7 x8 x9 : Sl) : En := [.own (some 0) (.lst ds), x1, x2, x3, x4, x5, x6, x7, x8, x9]
/-- some of them, by draws -/
theorem some_go {N : List Sl → RF} (hN : NextOk N) (x1 x2 x3 x5 x6 x8 x9 : Sl) (m : Int) (h1 : 1 ≤ m) (h2 : m < 2 ^ 29) : ∀ (A : List (List Nat)) (b : Nat) (ds acc : List D), DeckOk b ds → b + A.length < 2 ^ 39 → ∃ cs ds',
    lcGo (gN 7) (tOf (eOp dEq (eFn 2 1 N (rIo 0 (rCons (eVar 4) rNil))) (eC (.int 0)))) (eVar 7) [7] (txs A) (eS ds x1 x2 x3 (.dat (.int m)) x5 x6 .un x8 x9) acc = .ok (acc ++ txs cs) (eS ds' x1 x2 x3 (.dat (.int m)) x5 x6 .un x8 x9) ∧ cs.Sublist A ∧ DeckOk (b + A.length) ds'
  | [], b, ds, acc, hd, _ => ⟨[], ds, by simp [lcGo, txs], .slnil, hd⟩
  | l :: A, b, ds, acc, hd, hb => by
    have hb' : b + (A.length + 1) < 2 ^ 39 := hb
    obtain ⟨r, d1, q1, l1, u1, g1⟩ := draw hN (e := eS ds x1 x2 x3 (.dat (.int m)) x5 x6 (.dat (.str (tx l))) x8 x9) (j := 0) (m := m) (p := eVar 4) rfl rfl hd (by omega) h1 h2
    have t1 : tOf (eOp dEq (eFn 2 1 N (rIo 0 (rCons (eVar 4) rNil))) (eC (.int 0))) (eS ds x1 x2 x3 (.dat (.int m)) x5 x6 (.dat (.str (tx l))) x8 x9) = .ok (decide (r = 0)) (eS d1 x1 x2 x3 (.dat (.int m)) x5 x6 (.dat (.str (tx l))) x8 x9) := tt_of (st_op q1 st_c (by rw [dEq_int]))
    by_cases hr : r = 0
    · rw [show decide (r = 0) = true by simp [hr]] at t1
      obtain ⟨cs, ds', ih, hs, hd'⟩ := some_go hN x1 x2 x3 x5 x6 x8 x9 m h1 h2 A (b + 1) d1 (acc ++ [.str (tx l)]) g1 (by omega)
      refine ⟨l :: cs, ds', lc_yes (e1 := eS ds x1 x2 x3 (.dat (.int m)) x5 x6 (.dat (.str (tx l))) x8 x9) rfl t1 (st_var rfl) (Eq.trans ih ?_), hs.cons₂ l, ?_⟩
      · simp [txs]
      · have e : b + 1 + A.length = b + (l :: A).length := by simp; omega
        rw [← e]; exact hd'
    · rw [show decide (r = 0) = false by simp [hr]] at t1
      obtain ⟨cs, ds', ih, hs, hd'⟩ := some_go hN x1 x2 x3 x5 x6 x8 x9 m h1 h2 A (b + 1) d1 acc g1 (by omega)
      refine ⟨cs, ds', lc_no (e1 := eS ds x1 x2 x3 (.dat (.int m)) x5 x6 (.dat (.str (tx l))) x8 x9) rfl t1 ih, hs.cons l, ?_⟩
      have e : b + 1 + A.length = b + (l :: A).length := by simp; omega
      rw [← e]; exact hd'
theorem dNin_txs (l : List Nat) (cs : List (List Nat)) : dNin (.str (tx l)) (.list (txs cs)) = some (.bool (!decide (l ∈ cs))) := by
  show dInQ true _ _ = _
  unfold dInQ
  rw [if_pos ⟨rfl, fl_txs cs⟩, any_txs]
  rfl
/-- those that are not among them -/
theorem out_go (x0 x1 x2 x3 x4 x6 x8 x9 : Sl) (fs : List (List Nat)) : ∀ (A : List (List Nat)) (acc : List D),
    lcGo (gN 7) (tOf (eOp dNin (eVar 7) (eVar 5))) (eVar 7) [7] (txs A) [x0, x1, x2, x3, x4, .dat (.list (txs fs)), x6, .un, x8, x9] acc = .ok (acc ++ txs (A.filter fun l => !decide (l ∈ fs))) [x0, x1, x2, x3, x4, .dat (.list (txs fs)), x6, .un, x8, x9]
  | [], acc => by simp [lcGo, txs]
  | l :: A, acc => by
    have ih := out_go x0 x1 x2 x3 x4 x6 x8 x9 fs A
    have t1 : tOf (eOp dNin (eVar 7) (eVar 5)) [x0, x1, x2, x3, x4, .dat (.list (txs fs)), x6, .dat (.str (tx l)), x8, x9] = .ok (!decide (l ∈ fs)) [x0, x1, x2, x3, x4, .dat (.list (txs fs)), x6, .dat (.str (tx l)), x8, x9] := tt_of (st_op (st_var rfl) (st_var rfl) (dNin_txs l fs))
    by_cases h : l ∈ fs
    · rw [show (!decide (l ∈ fs)) = false by simp [h]] at t1
      refine lc_no (e1 := [x0, x1, x2, x3, x4, .dat (.list (txs fs)), x6, .dat (.str (tx l)), x8, x9]) rfl t1 (Eq.trans (ih _) ?_)
      simp [h]
    · rw [show (!decide (l ∈ fs)) = true by simp [h]] at t1
      refine lc_yes (e1 := [x0, x1, x2, x3, x4, .dat (.list (txs fs)), x6, .dat (.str (tx l)), x8, x9]) rfl t1 (st_var rfl) (Eq.trans (ih _) ?_)
      simp [h, txs]
/-- some faces -/
theorem fcs_go {Ff : List Sl → RF} (hF : FaceOk Ff) (n : Nat) (h1 : 1 ≤ n) (h6 : n ≤ 6) (x2 x3 x4 x5 x6 x7 x9 : Sl) : ∀ (items : List D) (b : Nat) (ds acc : List D), DeckOk b ds → b + 7 * items.length < 2 ^ 38 → ∃ fs ds',
    lcGo (gN 8) (fun e => R.ok true e) (eFn 2 1 Ff (rIo 0 (rCons (eVar 1) rNil))) [8] items (eS ds (.dat (.int n)) x2 x3 x4 x5 x6 x7 .un x9) acc = .ok (acc ++ txs fs) (eS ds' (.dat (.int n)) x2 x3 x4 x5 x6 x7 .un x9) ∧ fs.length = items.length ∧ (∀ f ∈ fs, f.length = n ∧ Signs f) ∧ DeckOk (b + 7 * items.length) ds'
  | [], b, ds, acc, hd, _ => ⟨[], ds, by simp [lcGo, txs], rfl, by simp, hd⟩
  | d :: items, b, ds, acc, hd, hb => by
    have hb' : b + 7 * (items.length + 1) < 2 ^ 38 := hb
    obtain ⟨f, d2, q2, f1, f2, h2⟩ := hF b ds n hd (by omega) h1 h6
    obtain ⟨fs, ds', ih, hl, ha, hd'⟩ := fcs_go hF n h1 h6 x2 x3 x4 x5 x6 x7 x9 items (b + 7) d2 (acc ++ [.str (tx f)]) h2 (by omega)
    have c2 : eFn 2 1 Ff (rIo 0 (rCons (eVar 1) rNil)) (eS ds (.dat (.int n)) x2 x3 x4 x5 x6 x7 (.dat d) x9) = .ok (.str (tx f)) (eS d2 (.dat (.int n)) x2 x3 x4 x5 x6 x7 (.dat d) x9) := cl_io (sr_ioD rfl (sr_consD (st_var rfl) sr_nilD)) rfl rfl rfl rfl q2
    refine ⟨f :: fs, ds', lc_yes (e1 := eS ds (.dat (.int n)) x2 x3 x4 x5 x6 x7 (.dat d) x9) rfl rfl c2 (Eq.trans ih ?_), by simp [hl], fun g hg => ?_, ?_⟩
    · simp [txs]
    · rcases List.mem_cons.mp hg with rfl | hg
      · exact ⟨f1, f2⟩
      · exact ha g hg
    · have e : b + 7 + 7 * items.length = b + 7 * (d :: items).length := by simp; omega
      rw [← e]; exact hd'
theorem near_go {Fl : List Sl → RF} (hL : LiesOk Fl) (x0 x1 x2 x3 x4 x5 x6 x8 : Sl) (l : List Nat) : ∀ (fs : List (List Nat)) (acc : List D), (∀ f ∈ fs, f.length = l.length) → l.length ≤ 6 →
    lcGo (gN 9) (tOf (eFn 2 0 Fl (rCons (eVar 9) (rCons (eVar 7) rNil)))) (eVar 9) [9] (txs fs) [x0, x1, x2, x3, x4, x5, x6, .dat (.str (tx l)), x8, .un] acc = .ok (acc ++ txs (fs.filter fun f => mat f l)) [x0, x1, x2, x3, x4, x5, x6, .dat (.str (tx l)), x8, .un]
  | [], acc, _, _ => by simp [lcGo, txs]
  | f :: fs, acc, h, h6 => by
    have ih := near_go hL x0 x1 x2 x3 x4 x5 x6 x8 l fs
    have hf := h f (by simp)
    have t1 : tOf (eFn 2 0 Fl (rCons (eVar 9) (rCons (eVar 7) rNil))) [x0, x1, x2, x3, x4, x5, x6, .dat (.str (tx l)), x8, .dat (.str (tx f))] = .ok (mat f l) [x0, x1, x2, x3, x4, x5, x6, .dat (.str (tx l)), x8, .dat (.str (tx f))] :=
      tt_of (cl_ok (sr_consD (st_var rfl) (sr_consD (st_var rfl) sr_nilD)) rfl rfl rfl (hL f l hf (by omega)))
    have hr : ∀ g ∈ fs, g.length = l.length := fun g hg => h g (by simp [hg])
    by_cases hm : mat f l = true
    · rw [hm] at t1
      refine lc_yes (e1 := [x0, x1, x2, x3, x4, x5, x6, .dat (.str (tx l)), x8, .dat (.str (tx f))]) rfl t1 (st_var rfl) (Eq.trans (ih _ hr h6) ?_)
      simp [hm, txs]
    · have hm' : mat f l = false := by simpa using hm
      rw [hm'] at t1
      refine lc_no (e1 := [x0, x1, x2, x3, x4, x5, x6, .dat (.str (tx l)), x8, .dat (.str (tx f))]) rfl t1 (Eq.trans (ih _ hr h6) ?_)
      simp [hm']
theorem ne_nil {gs : List (List Nat)} (h : ∀ g ∈ gs, Signs g) : dNe (.list (txs gs)) (.list []) = some (.bool (!decide (gs = []))) := by
  have hx : ∀ s ∈ gs.map tx, PyData.canLay0 (.str s) = true := by
    intro s hs
    obtain ⟨g, hg, rfl⟩ := List.mem_map.mp hs
    exact lay_tx fun c hc => by rcases h g hg c hc with rfl | rfl | rfl <;> decide
  obtain ⟨a1, a2, a3⟩ := fit_strs (gs.map tx) hx
  have e : txs gs = (gs.map tx).map .str := by simp [txs]
  rw [e, dNe_seq rfl ⟨by simpa [PyData.canLay0] using a1, by simp only [PyData.depth, a2]; decide⟩ ⟨by decide, by decide⟩]
  cases gs with
  | nil => rfl
  | cons g r => rfl
theorem lie_go {Fl : List Sl → RF} (hL : LiesOk Fl) (x0 x1 x2 x3 x4 x5 x8 : Sl) (n : Nat) (h6 : n ≤ 6) (fs : List (List Nat)) (hf : ∀ f ∈ fs, f.length = n ∧ Signs f) (hfl : fs.length ≤ 100) : ∀ (A : List (List Nat)) (acc : List D), (∀ l ∈ A, l.length = n) →
    lcGo (gN 7) (tOf (eOp dNe (eNew (nLc (iOf (eVar 6)) (gN 9) (tOf (eFn 2 0 Fl (rCons (eVar 9) (rCons (eVar 7) rNil)))) (eVar 9) [9])) (eCall gLst aNil))) (eVar 7) [7] (txs A) [x0, x1, x2, x3, x4, x5, .dat (.list (txs fs)), .un, x8, .un] acc =
      .ok (acc ++ txs (A.filter fun l => !decide (fs.filter (fun f => mat f l) = []))) [x0, x1, x2, x3, x4, x5, .dat (.list (txs fs)), .un, x8, .un]
  | [], acc, _ => by simp [lcGo, txs]
  | l :: A, acc, h => by
    have hl := h l (by simp)
    have ih := lie_go hL x0 x1 x2 x3 x4 x5 x8 n h6 fs hf hfl A
    have hr : ∀ g ∈ A, g.length = n := fun g hg => h g (by simp [hg])
    have hng := near_go hL x0 x1 x2 x3 x4 x5 (.dat (.list (txs fs))) x8 l fs [] (fun f hm => by rw [(hf f hm).1, hl]) (by omega)
    have t1 : tOf (eOp dNe (eNew (nLc (iOf (eVar 6)) (gN 9) (tOf (eFn 2 0 Fl (rCons (eVar 9) (rCons (eVar 7) rNil)))) (eVar 9) [9])) (eCall gLst aNil)) [x0, x1, x2, x3, x4, x5, .dat (.list (txs fs)), .dat (.str (tx l)), x8, .un] = .ok (!decide (fs.filter (fun f => mat f l) = [])) [x0, x1, x2, x3, x4, x5, .dat (.list (txs fs)), .dat (.str (tx l)), x8, .un] :=
      tt_of (st_op (st_new (nl_lc (it_of (st_var rfl) (iD_list _)) (lt_line (by rw [txs_len]; omega)) hng)) (st_call st_an (if_pos (by decide))) (ne_nil fun g hg => (hf g ((List.mem_filter.mp hg).1)).2))
    by_cases hm : fs.filter (fun f => mat f l) = []
    · rw [show (!decide (fs.filter (fun f => mat f l) = [])) = false by simp only [hm]; rfl] at t1
      refine lc_no (e1 := [x0, x1, x2, x3, x4, x5, .dat (.list (txs fs)), .dat (.str (tx l)), x8, .un]) rfl t1 (Eq.trans (ih _ hr) ?_)
      rw [List.filter_cons, if_neg (by simp only [hm]; decide)]
    · rw [show (!decide (fs.filter (fun f => mat f l) = [])) = true by rw [decide_eq_false hm]; rfl] at t1
      refine lc_yes (e1 := [x0, x1, x2, x3, x4, x5, .dat (.list (txs fs)), .dat (.str (tx l)), x8, .un]) rfl t1 (st_var rfl) (Eq.trans (ih _ hr) ?_)
      rw [List.filter_cons, if_pos (by rw [decide_eq_false hm]; rfl)]
      simp [txs]
end G
set_option linter.all false
set_option maxRecDepth 100000
namespace G
open PySem PySem.Spec PyProof.Rows L2
def e5 (n : Nat) (A : List (List Nat)) (ds : List D) (r m : Int) (cs : List (List Nat)) (x6 : Sl) : En := eS ds (.dat (.int n)) (.dat (.list (txs A))) (.dat (.int r)) (.dat (.int m)) (.dat (.list (txs cs))) x6 .un .un .un
theorem at_int {α : Type} {l : List α} {r : Int} (h0 : 0 ≤ r) (h1 : r < l.length) : ∃ x, x ∈ l ∧ atI l r = some x := by
  obtain ⟨x, hx, h⟩ := at_nat (l := l) h0 h1
  exact ⟨x, List.mem_of_getElem? hx, h⟩
theorem tx_of_mem {A : List (List Nat)} {d : D} (h : d ∈ txs A) : ∃ l, l ∈ A ∧ d = .str (tx l) := by
  obtain ⟨l, hl, rfl⟩ := List.mem_map.mp h
  exact ⟨l, hl, rfl⟩
theorem sub_one {α : Type} {a : α} : ∀ {l : List α}, a ∈ l → [a].Sublist l
  | x :: l, h => by
    rcases List.mem_cons.mp h with rfl | h
    · exact (List.nil_sublist l).cons₂ a
    · exact (sub_one h).cons x
theorem set5 {N : List Sl → RF} (hN : NextOk N) (n : Nat) {A : List (List Nat)} (hA0 : 0 < A.length) (hA1 : A.length ≤ 64) (r m : Int) {cs : List (List Nat)} (hc : cs.Sublist A) {b : Nat} {ds : List D} (hd : DeckOk b ds) (hb : b < 2 ^ 30) : ∃ cs' ds',
    sIf (tOf (eOp dEq (eVar 3) (eC (.int 2)))) (sSet 5 (eCall gLst (aCons (eOp dIx (eVar 2) (eFn 2 1 N (rIo 0 (rCons (eCall dLen (aCons (eVar 2) aNil)) rNil)))) aNil))) sNx (e5 n A ds r m cs .un) = .ok .nx (e5 n A ds' r m cs' .un) ∧ cs'.Sublist A ∧ DeckOk (b + 1) ds' := by
  have t1 : tOf (eOp dEq (eVar 3) (eC (.int 2))) (e5 n A ds r m cs .un) = .ok (decide (r = 2)) (e5 n A ds r m cs .un) := tt_of (st_op (st_var rfl) st_c (by rw [dEq_int]))
  by_cases h : r = 2
  · rw [show decide (r = 2) = true by simp [h]] at t1
    obtain ⟨k, d1, q1, l1, u1, g1⟩ := draw hN (e := e5 n A ds r m cs .un) (j := 0) (m := A.length) (p := eCall dLen (aCons (eVar 2) aNil)) rfl (st_call (st_ac (st_var rfl) st_an) (by rw [dLen_list, txs_len])) hd (by omega) (by omega) (by omega)
    obtain ⟨d, hm, ha⟩ := at_int (l := txs A) l1 (by rw [txs_len]; omega)
    obtain ⟨l, hl, rfl⟩ := tx_of_mem hm
    refine ⟨[l], d1, ss_ift t1 (ss_setD (st_call (st_ac (st_op (st_var rfl) q1 (by rw [dIx_list]; exact ha)) st_an) (if_pos (by show 1 ≤ sizeLine; decide)))), sub_one hl, g1⟩
  · rw [show decide (r = 2) = false by simp [h]] at t1
    exact ⟨cs, ds, ss_iff t1 ss_nx, hc, dk_up hd (by omega)⟩
theorem set6 (n : Nat) {A : List (List Nat)} (hA1 : A.length ≤ 64) (r m : Int) {cs : List (List Nat)} (hc : cs.Sublist A) (ds : List D) : ∃ cs',
    sIf (tOf (eOp dEq (eVar 3) (eC (.int 4)))) (sSet 5 (eNew (nLc (iOf (eVar 2)) (gN 7) (tOf (eOp dNin (eVar 7) (eVar 5))) (eVar 7) [7]))) sNx (e5 n A ds r m cs .un) = .ok .nx (e5 n A ds r m cs' .un) ∧ cs'.Sublist A := by
  have t1 : tOf (eOp dEq (eVar 3) (eC (.int 4))) (e5 n A ds r m cs .un) = .ok (decide (r = 4)) (e5 n A ds r m cs .un) := tt_of (st_op (st_var rfl) st_c (by rw [dEq_int]))
  by_cases h : r = 4
  · rw [show decide (r = 4) = true by simp [h]] at t1
    refine ⟨A.filter fun l => !decide (l ∈ cs), Eq.trans (ss_ift t1 (ss_setD (st_new (nl_lc (it_of (st_var (e := e5 n A ds r m cs .un) rfl) (iD_list (txs A))) (lt_line (by rw [txs_len]; omega)) (out_go (.own (some 0) (.lst ds)) (.dat (.int n)) (.dat (.list (txs A))) (.dat (.int r)) (.dat (.int m)) .un .un .un cs A []))))) rfl, List.filter_sublist⟩
  · rw [show decide (r = 4) = false by simp [h]] at t1
    exact ⟨cs, ss_iff t1 ss_nx, hc⟩
theorem set7 {N Ff Fl : List Sl → RF} (hN : NextOk N) (hF : FaceOk Ff) (hL : LiesOk Fl) {n : Nat} (h1 : 1 ≤ n) (h6 : n ≤ 6) {A : List (List Nat)} (hA1 : A.length ≤ 64) (hA : ∀ l ∈ A, l.length = n) (r m : Int) {cs : List (List Nat)} (hc : cs.Sublist A) {b : Nat} {ds : List D} (hd : DeckOk b ds) (hb : b < 2 ^ 30) : ∃ cs' ds' x6,
    sIf (tOf (eOp dGt (eVar 3) (eC (.int 5)))) (sSeq (sSet 6 (eNew (nLc (iArgs rg1 (aCons (eOp dAdd (eC (.int 1)) (eFn 2 1 N (rIo 0 (rCons (eC (.int 4)) rNil)))) aNil)) (gN 8) (fun e => R.ok true e) (eFn 2 1 Ff (rIo 0 (rCons (eVar 1) rNil))) [8])))
      (sSet 5 (eNew (nLc (iOf (eVar 2)) (gN 7) (tOf (eOp dNe (eNew (nLc (iOf (eVar 6)) (gN 9) (tOf (eFn 2 0 Fl (rCons (eVar 9) (rCons (eVar 7) rNil)))) (eVar 9) [9])) (eCall gLst aNil))) (eVar 7) [7])))) sNx (e5 n A ds r m cs .un) = .ok .nx (e5 n A ds' r m cs' x6) ∧ cs'.Sublist A ∧ DeckOk (b + 29) ds' := by
  have t1 : tOf (eOp dGt (eVar 3) (eC (.int 5))) (e5 n A ds r m cs .un) = .ok (decide (5 < r)) (e5 n A ds r m cs .un) := tt_of (st_op (st_var rfl) st_c (by rw [dGt_int]))
  by_cases h : 5 < r
  · rw [show decide (5 < r) = true by simp [h]] at t1
    obtain ⟨k, d1, q1, l1, u1, g1⟩ := draw hN (e := e5 n A ds r m cs .un) (j := 0) (m := 4) (p := eC (.int 4)) rfl rfl hd (by omega) (by omega) (by omega)
    have hk : (1 + k : Int) = ((1 + k.toNat : Nat) : Int) := by omega
    have hlen : (rgD 0 ((1 + k.toNat : Nat) : Int)).length = 1 + k.toNat := rgD_len _
    obtain ⟨fs, d2, q2, hl, ha, g2⟩ := fcs_go hF n h1 h6 (.dat (.list (txs A))) (.dat (.int r)) (.dat (.int m)) (.dat (.list (txs cs))) .un .un .un (rgD 0 ((1 + k.toNat : Nat) : Int)) (b + 1) d1 [] g1 (by rw [hlen]; omega)
    have hA' : ∀ l ∈ A, l.length = n := hA
    have f1 := lie_go hL (.own (some 0) (.lst d2)) (.dat (.int n)) (.dat (.list (txs A))) (.dat (.int r)) (.dat (.int m)) (.dat (.list (txs cs))) .un n h6 fs ha (by rw [hl, hlen]; omega) A [] hA
    have f2 := ss_setD (i := 6) (st_new (nl_lc (it_args (st_ac (st_op (g := dAdd) (st_c (d := .int 1)) q1 rfl) st_an) (show rg1 [.int (1 + k)] = some (rgD 0 ((1 + k.toNat : Nat) : Int)) by rw [hk]; exact rg1_nat (by omega))) (by rw [hlen]; exact lt_line (by omega)) q2))
    have f3 := ss_setD (i := 5) (st_new (nl_lc (it_of (st_var (e := e5 n A d2 r m cs (.dat (.list (txs fs)))) (i := 2) rfl) (iD_list (txs A))) (lt_line (by rw [txs_len]; omega)) f1))
    exact ⟨A.filter fun l => !decide (fs.filter (fun f => mat f l) = []), d2, .dat (.list (txs fs)), ss_ift t1 (ss_seq f2 f3), List.filter_sublist, dk_up g2 (by rw [hlen]; omega)⟩
  · rw [show decide (5 < r) = false by simp [h]] at t1
    exact ⟨cs, ds, .un, ss_iff t1 ss_nx, hc, dk_up hd (by omega)⟩
end G
set_option linter.all false
set_option maxRecDepth 100000
namespace G
open PySem PySem.Spec PyProof.Rows L2
def SetOk (F : List Sl → RF) : Prop := ∀ (b : Nat) (ds : List D) (n : Nat), DeckOk b ds → b < 2 ^ 29 → 1 ≤ n → n ≤ 6 →
  ∃ cs ds', F [.own (some 0) (.lst ds), .dat (.int n)] = .ok (.tuple [.int n, .tuple (txs cs)]) [.lst ds'] ∧ cs.Sublist (allC n) ∧ DeckOk (b + 200) ds'
theorem allC_len (n : Nat) : (allC n).length = 2 ^ n := by simp [allC]
theorem allC_mem {n : Nat} {l : List Nat} (h : l ∈ allC n) : l.length = n := by
  obtain ⟨k, _, rfl⟩ := List.mem_map.mp h
  simp [bitsOf]
theorem p106 : dPow (.int 10) (.int 6) = some (.int 1000000) := by rw [dPow_int, if_pos ⟨by decide, by decide, by decide⟩]; rfl
def often : List D := [.int 1, .int 1000000, .int 1000000, .int 2, .int 8, .int 2, .int 3, .int 4]
theorem often_ok {r : Int} (h0 : 0 ≤ r) (h8 : r < 8) : ∃ m : Int, dIx (.list often) (.int r) = some (.int m) ∧ 1 ≤ m ∧ m < 2 ^ 29 := by
  have : r = 0 ∨ r = 1 ∨ r = 2 ∨ r = 3 ∨ r = 4 ∨ r = 5 ∨ r = 6 ∨ r = 7 := by omega
  rcases this with rfl | rfl | rfl | rfl | rfl | rfl | rfl | rfl
  · exact ⟨1, rfl, by decide, by decide⟩
  · exact ⟨1000000, rfl, by decide, by decide⟩
  · exact ⟨1000000, rfl, by decide, by decide⟩
  · exact ⟨2, rfl, by decide, by decide⟩
  · exact ⟨8, rfl, by decide, by decide⟩
  · exact ⟨2, rfl, by decide, by decide⟩
  · exact ⟨3, rfl, by decide, by decide⟩
  · exact ⟨4, rfl, by decide, by decide⟩
theorem run_set {N Ff Fa Fl : List Sl → RF} (hN : NextOk N) (hF : FaceOk Ff) (hA : AllOk Fa) (hL : LiesOk Fl) {b : Nat} {ds : List D} {n : Nat} (hd : DeckOk b ds) (hb : b < 2 ^ 29) (h1 : 1 ≤ n) (h6 : n ≤ 6) :
    ∃ cs ds', runF 10 1 (body__law_set N Ff Fa Fl) [.own (some 0) (.lst ds), .dat (.int n)] = .ok (.tuple [.int n, .tuple (txs cs)]) [.lst ds'] ∧ cs.Sublist (allC n) ∧ DeckOk (b + 200) ds' := by
  have hp : 2 ^ n ≤ 2 ^ 6 := Nat.pow_le_pow_right (by decide) h6
  have hp0 : 0 < 2 ^ n := Nat.pow_pos (by decide)
  have hlen := allC_len n
  obtain ⟨r, d1, q1, l1, u1, g1⟩ := draw hN (e := eS ds (.dat (.int n)) (.dat (.list (txs (allC n)))) .un .un .un .un .un .un .un) (j := 0) (m := 8) (p := eC (.int 8)) rfl rfl hd (by omega) (by omega) (by omega)
  obtain ⟨m, hm, m1, m2⟩ := often_ok l1 u1
  obtain ⟨cs0, d2, q2, s2, g2⟩ := some_go hN (.dat (.int n)) (.dat (.list (txs (allC n)))) (.dat (.int r)) .un .un .un .un m m1 m2 (allC n) (b + 1) d1 [] g1 (by rw [hlen]; omega)
  obtain ⟨cs1, d3, q3, s3, g3⟩ := set5 hN n (A := allC n) (by omega) (by omega) r m s2 g2 (by omega)
  obtain ⟨cs2, q4, s4⟩ := set6 n (A := allC n) (by omega) r m s3 d3
  obtain ⟨cs3, d5, x6, q5, s5, g5⟩ := set7 hN hF hL h1 h6 (A := allC n) (by omega) (fun l hl => allC_mem hl) r m s4 g3 (by omega)
  refine ⟨cs3, d5, ?_, s5, dk_up g5 (by omega)⟩
  refine run_rt (e := e5 n (allC n) d5 r m cs3 x6) ?_ rfl
  refine ss_seq (ss_setD (i := 2) (cl_ok (sr_consD (st_var (d := .int n) rfl) sr_nilD) rfl rfl rfl (hA n h6))) ?_
  refine ss_seq (ss_setD (i := 3) q1) ?_
  refine ss_seq (ss_setD (i := 4) (st_op (st_call (st_ac st_c (st_ac (st_op st_c st_c p106) (st_ac (st_op st_c st_c p106) (st_ac st_c (st_ac st_c (st_ac st_c (st_ac st_c (st_ac st_c st_an)))))))) (if_pos (show often.length ≤ sizeLine by decide))) (st_var (d := .int r) rfl) hm)) ?_
  have f5 : sSet 5 (eNew (nLc (iOf (eVar 2)) (gN 7) (tOf (eOp dEq (eFn 2 1 N (rIo 0 (rCons (eVar 4) rNil))) (eC (.int 0)))) (eVar 7) [7])) (eS d1 (.dat (.int n)) (.dat (.list (txs (allC n)))) (.dat (.int r)) (.dat (.int m)) .un .un .un .un .un) = .ok .nx (e5 n (allC n) d2 r m cs0 .un) :=
    Eq.trans (ss_setD (st_new (nl_lc (it_of (st_var (d := .list (txs (allC n))) rfl) (iD_list (txs (allC n)))) (lt_line (by rw [txs_len]; omega)) q2))) rfl
  refine ss_seq f5 (ss_seq q3 (ss_seq q4 (ss_seq q5 ?_)))
  exact ss_rt (st_call (st_ac (st_var (d := .int n) rfl) (st_ac (st_call (st_ac (st_var (d := .list (txs cs3)) rfl) st_an) rfl) st_an)) (if_pos (by show 2 ≤ sizeLine; decide)))
theorem setOk : SetOk (fun a => (run__law_set a).nox) := fun b ds n hd hb h1 h6 => by
  obtain ⟨cs, ds', h, h2⟩ := run_set nextOk faceOk allOk liesOk hd hb h1 h6
  exact ⟨cs, ds', by simp only [run__law_set, h]; rfl, h2⟩
end G
set_option Elab.async false
set_option linter.all false
set_option maxRecDepth 100000
namespace G
open PySem PySem.Spec PyProof.Rows L2
/-! corners as numbers -/
theorem snoc_ind {α : Type} {P : List α → Prop} (h0 : P []) (hs : ∀ l a, P l → P (l ++ [a])) (l : List α) : P l := by
  have h : ∀ r : List α, P r.reverse := fun r => by
    induction r with
    | nil => exact h0
    | cons a r ih => rw [List.reverse_cons]; exact hs _ _ ih
  simpa using h l.reverse
def vl (l : List Nat) : Nat := l.foldl (fun a c => 2 * a + (c - 48)) 0
theorem vl_snoc (l : List Nat) (c : Nat) : vl (l ++ [c]) = 2 * vl l + (c - 48) := by simp [vl]
def Bn (l : List Nat) : Prop := ∀ c ∈ l, c = 48 ∨ c = 49
theorem vl_bit (l : List Nat) : Bn l → ∀ p (h : p < l.length), vl l / 2 ^ (l.length - 1 - p) % 2 = l[p] - 48 := by
  refine snoc_ind (P := fun l => Bn l → ∀ p (h : p < l.length), vl l / 2 ^ (l.length - 1 - p) % 2 = l[p] - 48) (fun _ p h => by simp at h) (fun l a ih hb p h => ?_) l
  have hb' : Bn l := fun c hc => hb c (by simp [hc])
  have ha : a = 48 ∨ a = 49 := hb a (by simp)
  rw [vl_snoc]
  by_cases hp : p < l.length
  · rw [List.getElem_append_left hp, ← ih hb' p hp]
    have e : (l ++ [a]).length - 1 - p = (l.length - 1 - p) + 1 := by simp; omega
    rw [e, Nat.pow_succ, Nat.mul_comm (2 ^ _) 2, ← Nat.div_div_eq_div_mul]
    have e2 : (2 * vl l + (a - 48)) / 2 = vl l := by omega
    rw [e2]
  · have e : p = l.length := by simp at h; omega
    subst e
    simp
    omega
theorem vl_inj {l m : List Nat} (hl : Bn l) (hm : Bn m) (h : l.length = m.length) (e : vl l = vl m) : l = m := by
  refine List.ext_getElem h fun p h1 h2 => ?_
  have a := vl_bit l hl p h1
  have b := vl_bit m hm p h2
  rw [e, h, b] at a
  have c1 := hl _ (List.getElem_mem h1)
  have c2 := hm _ (List.getElem_mem h2)
  omega
/-! membership -/
def Mt : List Nat → List Nat → Prop
  | [], [] => True
  | s :: f, x :: c => x ∈ ch s ∧ Mt f c
  | _, _ => False
theorem mem_cor : ∀ {f c : List Nat}, c ∈ cor f ↔ Mt f c
  | [], [] => by simp [cor, Mt]
  | [], _ :: _ => by simp [cor, Mt]
  | s :: f, [] => by simp [cor, Mt]
  | s :: f, x :: c => by
    have ih := mem_cor (f := f) (c := c)
    simp only [cor, List.mem_flatMap, List.mem_map, Mt, ← ih]
    constructor
    · rintro ⟨y, hy, m, hm, e⟩
      cases e
      exact ⟨hy, hm⟩
    · rintro ⟨h1, h2⟩
      exact ⟨x, h1, c, h2, rfl⟩
theorem map_cons_nodup (x : Nat) {L : List (List Nat)} (h : L.Nodup) : (L.map (x :: ·)).Nodup := List.Pairwise.map _ (fun a b q e => q (by simpa using e)) h
theorem cor_nodup : ∀ (f : List Nat), (cor f).Nodup
  | [] => by simp [cor]
  | c :: f => by
    have ih := cor_nodup f
    unfold cor ch
    split
    · simp only [List.flatMap_cons, List.flatMap_nil, List.append_nil]
      refine List.nodup_append.mpr ⟨map_cons_nodup _ ih, map_cons_nodup _ ih, fun a ha b hb e => ?_⟩
      simp only [List.mem_map] at ha hb
      obtain ⟨m, _, rfl⟩ := ha
      obtain ⟨k, _, rfl⟩ := hb
      simp at e
    · simp only [List.flatMap_cons, List.flatMap_nil, List.append_nil]
      exact map_cons_nodup _ ih
theorem same_len {α : Type} {a b : List α} (h1 : a.Nodup) (h2 : b.Nodup) (h : ∀ j, j ∈ a ↔ j ∈ b) : a.length = b.length := ((List.perm_ext_iff_of_nodup h1 h2).mpr h).length_eq
theorem Mt_len : ∀ {f c : List Nat}, Mt f c → c.length = f.length
  | [], [], _ => rfl
  | _ :: f, _ :: c, h => by simp [Mt_len h.2]
  | [], _ :: _, h => h.elim
  | _ :: _, [], h => h.elim
theorem Mt_get : ∀ {f c : List Nat} {p s : Nat}, Mt f c → f[p]? = some s → ∃ x, c[p]? = some x ∧ x ∈ ch s
  | s :: f, x :: c, 0, _, h, e => by cases e; exact ⟨x, rfl, h.1⟩
  | _ :: f, _ :: c, p + 1, s, h, e => by simpa using Mt_get (p := p) h.2 (by simpa using e)
  | [], [], p, s, h, e => by simp at e
  | [], _ :: _, _, _, h, _ => h.elim
  | _ :: _, [], _, _, h, _ => h.elim
def pk (b : Nat) (f : List Nat) : List Nat := f.map fun s => if s = 42 then b else s
theorem Mt_pk {b : Nat} (hb : b = 48 ∨ b = 49) : ∀ (f : List Nat), Mt f (pk b f)
  | [] => trivial
  | s :: f => by
    refine ⟨?_, Mt_pk hb f⟩
    unfold ch
    by_cases h : s = 42
    · simp only [if_pos h]; rcases hb with rfl | rfl <;> simp
    · simp only [if_neg h]; simp
theorem pk_get {b : Nat} {f : List Nat} {p s : Nat} (h : f[p]? = some s) : (pk b f)[p]? = some (if s = 42 then b else s) := by simp [pk, h]
theorem cor_ne (f : List Nat) : cor f ≠ [] := fun h => by
  have := cor_count f
  rw [h] at this
  have := Nat.one_le_two_pow (n := f.count 42)
  simp at *
  omega
/-! the common face -/
def okp (z : Nat × Nat) : Bool := z.1 == z.2 || z.2 == 42 || z.1 == 42
def pkp (z : Nat × Nat) : Nat := if z.1 = z.2 ∨ z.2 = 42 then z.1 else z.2
def cmo (f g : List Nat) : Option (List Nat) := if (f.zip g).all okp then some ((f.zip g).map pkp) else none
theorem cm_mem : ∀ {f g : List Nat}, f.length = g.length → Signs f → Signs g → (f.zip g).all okp = true → ∀ c, (Mt f c ∧ Mt g c) ↔ Mt ((f.zip g).map pkp) c
  | [], [], _, _, _, _, c => by cases c <;> simp [Mt]
  | a :: f, b :: g, hl, hf, hg, h, c => by
    simp only [List.zip_cons_cons, List.all_cons, Bool.and_eq_true] at h
    cases c with
    | nil => simp [Mt]
    | cons x c =>
      have ih := cm_mem (f := f) (g := g) (by simpa using hl) (fun y hy => hf y (by simp [hy])) (fun y hy => hg y (by simp [hy])) h.2 c
      have hd : (x ∈ ch a ∧ x ∈ ch b) ↔ x ∈ ch (pkp (a, b)) := by
        have h1 := h.1
        unfold okp at h1
        simp only [Bool.or_eq_true, beq_iff_eq] at h1
        have ha := hf a (by simp)
        have hb := hg b (by simp)
        unfold pkp
        rcases ha with rfl | rfl | rfl <;> rcases hb with rfl | rfl | rfl <;> simp [ch] at h1 ⊢ <;> omega
      simp only [List.zip_cons_cons, List.map_cons, Mt]
      rw [← hd, ← ih]
      constructor
      · rintro ⟨⟨h1, h2⟩, h3, h4⟩; exact ⟨⟨h1, h3⟩, h2, h4⟩
      · rintro ⟨⟨h1, h3⟩, h2, h4⟩; exact ⟨⟨h1, h2⟩, h3, h4⟩
theorem cm_non : ∀ {f g : List Nat}, Signs f → Signs g → (f.zip g).all okp = false → ∀ c, ¬ (Mt f c ∧ Mt g c)
  | [], _, _, _, h, _ => by simp at h
  | _ :: _, [], _, _, h, _ => by simp at h
  | a :: f, b :: g, hf, hg, h, c => by
    rintro ⟨h1, h2⟩
    cases c with
    | nil => exact h1
    | cons x c =>
      simp only [List.zip_cons_cons, List.all_cons, Bool.and_eq_false_iff] at h
      rcases h with h | h
      · have ha := hf a (by simp)
        have hb := hg b (by simp)
        have q1 := h1.1
        have q2 := h2.1
        unfold okp at h
        simp only [Bool.or_eq_false_iff, beq_eq_false_iff_ne] at h
        unfold ch at q1 q2
        rw [if_neg h.2] at q1
        rw [if_neg h.1.2] at q2
        simp at q1 q2
        omega
      · exact cm_non (f := f) (g := g) (fun y hy => hf y (by simp [hy])) (fun y hy => hg y (by simp [hy])) h c ⟨h1.2, h2.2⟩
theorem signs_cm {f g : List Nat} (hf : Signs f) (hg : Signs g) : Signs ((f.zip g).map pkp) := fun c hc => by
  simp only [List.mem_map] at hc
  obtain ⟨⟨a, b⟩, hz, rfl⟩ := hc
  have := List.of_mem_zip hz
  unfold pkp
  split
  · exact hf _ this.1
  · exact hg _ this.2
/-! hulls -/
structure Hull (L : List (List Nat)) (h : List Nat) : Prop where
  at_ : ∀ p s : Nat, h[p]? = some s → (s = 48 ∧ ∀ c ∈ L, c[p]? = some 48) ∨ (s = 49 ∧ ∀ c ∈ L, c[p]? = some 49) ∨ (s = 42 ∧ (∀ c ∈ L, c[p]? = some 48 ∨ c[p]? = some 49) ∧ (∃ c ∈ L, c[p]? = some 48) ∧ ∃ c ∈ L, c[p]? = some 49)
theorem Hull.congr {L M : List (List Nat)} {h : List Nat} (H : Hull L h) (e : ∀ c, c ∈ L ↔ c ∈ M) : Hull M h := ⟨fun p s q => by
  rcases H.at_ p s q with ⟨a, b⟩ | ⟨a, b⟩ | ⟨a, b, ⟨c, hc, k⟩, d, hd, m⟩
  · exact .inl ⟨a, fun c hc => b c ((e c).mpr hc)⟩
  · exact .inr (.inl ⟨a, fun c hc => b c ((e c).mpr hc)⟩)
  · exact .inr (.inr ⟨a, fun c hc => b c ((e c).mpr hc), ⟨c, (e c).mp hc, k⟩, d, (e d).mp hd, m⟩)⟩
theorem ch42 {x : Nat} : x ∈ ch 42 ↔ x = 48 ∨ x = 49 := by simp [ch]
theorem hull_cor {f : List Nat} (hf : Signs f) : Hull (cor f) f := ⟨fun p s q => by
  have hs := hf s (List.mem_of_getElem? q)
  have all : ∀ c ∈ cor f, ∃ x, c[p]? = some x ∧ x ∈ ch s := fun c hc => Mt_get (mem_cor.mp hc) q
  rcases hs with rfl | rfl | rfl
  · exact .inl ⟨rfl, fun c hc => by obtain ⟨x, h1, h2⟩ := all c hc; simp [ch] at h2; rw [h1, h2]⟩
  · exact .inr (.inl ⟨rfl, fun c hc => by obtain ⟨x, h1, h2⟩ := all c hc; simp [ch] at h2; rw [h1, h2]⟩)
  · refine .inr (.inr ⟨rfl, fun c hc => ?_, ⟨pk 48 f, mem_cor.mpr (Mt_pk (.inl rfl) f), ?_⟩, pk 49 f, mem_cor.mpr (Mt_pk (.inr rfl) f), ?_⟩)
    · obtain ⟨x, h1, h2⟩ := all c hc
      rcases ch42.mp h2 with rfl | rfl
      · exact .inl h1
      · exact .inr h1
    · rw [pk_get q]; simp
    · rw [pk_get q]; simp⟩
def hup (z : Nat × Nat) : Nat := if z.1 = z.2 then z.1 else 42
def hulU (f g : List Nat) : List Nat := (f.zip g).map hup
theorem hull_two {f g : List Nat} (hf : Signs f) (hg : Signs g) : Hull (cor f ++ cor g) (hulU f g) := ⟨fun p s q => by
  unfold hulU at q
  rw [List.getElem?_map] at q
  cases e : (f.zip g)[p]? with
  | none => rw [e] at q; cases q
  | some z =>
    obtain ⟨a, b⟩ := z
    rw [e] at q
    simp only [Option.map_some, Option.some.injEq] at q
    obtain ⟨ea, eb⟩ := List.getElem?_zip_eq_some.mp e
    have ea : f[p]? = some a := ea
    have eb : g[p]? = some b := eb
    have H1 := (hull_cor hf).at_ p a ea
    have H2 := (hull_cor hg).at_ p b eb
    have L : ∀ {P : List Nat → Prop}, (∀ c ∈ cor f, P c) → (∀ c ∈ cor g, P c) → ∀ c ∈ cor f ++ cor g, P c := fun h1 h2 c hc => (List.mem_append.mp hc).elim (h1 c) (h2 c)
    have f0 : ∃ c, c ∈ cor f := ⟨_, mem_cor.mpr (Mt_pk (.inl rfl) f)⟩
    have g0 : ∃ c, c ∈ cor g := ⟨_, mem_cor.mpr (Mt_pk (.inl rfl) g)⟩
    have M1 : ∀ {P : List Nat → Prop}, (∃ c ∈ cor f, P c) → ∃ c ∈ cor f ++ cor g, P c := fun ⟨c, h, k⟩ => ⟨c, List.mem_append.mpr (.inl h), k⟩
    have M2 : ∀ {P : List Nat → Prop}, (∃ c ∈ cor g, P c) → ∃ c ∈ cor f ++ cor g, P c := fun ⟨c, h, k⟩ => ⟨c, List.mem_append.mpr (.inr h), k⟩
    obtain ⟨cf, hcf⟩ := f0
    obtain ⟨cg, hcg⟩ := g0
    unfold hup at q
    rcases H1 with ⟨rfl, h1⟩ | ⟨rfl, h1⟩ | ⟨rfl, h1, h3, h4⟩ <;> rcases H2 with ⟨rfl, h2⟩ | ⟨rfl, h2⟩ | ⟨rfl, h2, h5, h6⟩ <;> simp at q <;> subst q
    · exact .inl ⟨rfl, L h1 h2⟩
    · exact .inr (.inr ⟨rfl, L (fun c hc => .inl (h1 c hc)) (fun c hc => .inr (h2 c hc)), M1 ⟨cf, hcf, h1 _ hcf⟩, M2 ⟨cg, hcg, h2 _ hcg⟩⟩)
    · exact .inr (.inr ⟨rfl, L (fun c hc => .inl (h1 c hc)) h2, M2 h5, M2 h6⟩)
    · exact .inr (.inr ⟨rfl, L (fun c hc => .inr (h1 c hc)) (fun c hc => .inl (h2 c hc)), M2 ⟨cg, hcg, h2 _ hcg⟩, M1 ⟨cf, hcf, h1 _ hcf⟩⟩)
    · exact .inr (.inl ⟨rfl, L h1 h2⟩)
    · exact .inr (.inr ⟨rfl, L (fun c hc => .inr (h1 c hc)) h2, M2 h5, M2 h6⟩)
    · exact .inr (.inr ⟨rfl, L h1 (fun c hc => .inl (h2 c hc)), M1 h3, M1 h4⟩)
    · exact .inr (.inr ⟨rfl, L h1 (fun c hc => .inr (h2 c hc)), M1 h3, M1 h4⟩)
    · exact .inr (.inr ⟨rfl, L h1 h2, M1 h3, M1 h4⟩)⟩
/-! has all -/
def hap (z : Nat × Nat) : Bool := z.1 == 42 || z.1 == z.2
theorem has_iff : ∀ {f g : List Nat}, f.length = g.length → Signs f → Signs g → ((f.zip g).all hap = true ↔ ∀ c, Mt g c → Mt f c)
  | [], [], _, _, _ => by simp
  | a :: f, b :: g, hl, hf, hg => by
    have ih := has_iff (f := f) (g := g) (by simpa using hl) (fun y hy => hf y (by simp [hy])) (fun y hy => hg y (by simp [hy]))
    simp only [List.zip_cons_cons, List.all_cons, Bool.and_eq_true, ih]
    have ha := hf a (by simp)
    have hb := hg b (by simp)
    constructor
    · rintro ⟨h1, h2⟩ c hc
      cases c with
      | nil => exact hc
      | cons x c =>
        refine ⟨?_, h2 c hc.2⟩
        have q := hc.1
        unfold hap at h1
        rcases ha with rfl | rfl | rfl <;> rcases hb with rfl | rfl | rfl <;> simp [ch] at h1 q ⊢ <;> first | exact q | omega
    · intro h
      refine ⟨?_, fun c hc => ?_⟩
      · have q1 := (h (_ :: pk 48 g) ⟨(show (if b = 42 then 48 else b) ∈ ch b from (Mt_pk (.inl rfl) [b]).1), Mt_pk (.inl rfl) g⟩).1
        have q2 := (h (_ :: pk 48 g) ⟨(show (if b = 42 then 49 else b) ∈ ch b from (Mt_pk (.inr rfl) [b]).1), Mt_pk (.inl rfl) g⟩).1
        unfold hap
        rcases ha with rfl | rfl | rfl <;> rcases hb with rfl | rfl | rfl <;> simp [ch] at q1 q2 ⊢
      · exact (h (_ :: c) ⟨(show (if b = 42 then 48 else b) ∈ ch b from (Mt_pk (.inl rfl) [b]).1), hc⟩).2
end G
set_option Elab.async false
set_option linter.all false
set_option maxRecDepth 100000
namespace G
open PySem PySem.Spec PyProof.Rows L2
def dfp (z : Nat × Nat) : Bool := !decide (z.1 = z.2)
def nd (zs : List (Nat × Nat)) : Nat := (zs.filter dfp).length
theorem counts : ∀ {f g : List Nat}, f.length = g.length → Signs f → Signs g →
    ∃ s a b e : Nat, f.count 42 = s + a ∧ g.count 42 = s + b ∧ (hulU f g).count 42 = s + (a + b + e) ∧ nd (f.zip g) = a + b + e ∧ ((f.zip g).all okp = true ↔ e = 0)
  | [], [], _, _, _ => ⟨0, 0, 0, 0, rfl, rfl, rfl, rfl, by simp⟩
  | x :: f, y :: g, hl, hf, hg => by
    obtain ⟨s, a, b, e, h1, h2, h3, h4, h5⟩ := counts (f := f) (g := g) (by simpa using hl) (fun y hy => hf y (by simp [hy])) (fun y hy => hg y (by simp [hy]))
    have hx := hf x (by simp)
    have hy := hg y (by simp)
    unfold hulU at h3 ⊢
    unfold nd at h4 ⊢
    simp only [List.zip_cons_cons, List.map_cons, List.count_cons, List.filter_cons, List.all_cons, Bool.and_eq_true, h1, h2, h3]
    unfold hup dfp okp
    unfold dfp at h4
    unfold okp at h5
    rcases hx with rfl | rfl | rfl <;> rcases hy with rfl | rfl | rfl
    · exact ⟨s, a, b, e, by simp <;> omega, by simp <;> omega, by simp <;> omega, by simp [h4] <;> omega, by simpa using h5⟩
    · exact ⟨s, a, b, e + 1, by simp <;> omega, by simp <;> omega, by simp <;> omega, by simp [h4] <;> omega, by simpa using h5⟩
    · exact ⟨s, a, b + 1, e, by simp <;> omega, by simp <;> omega, by simp <;> omega, by simp [h4] <;> omega, by simpa using h5⟩
    · exact ⟨s, a, b, e + 1, by simp <;> omega, by simp <;> omega, by simp <;> omega, by simp [h4] <;> omega, by simpa using h5⟩
    · exact ⟨s, a, b, e, by simp <;> omega, by simp <;> omega, by simp <;> omega, by simp [h4] <;> omega, by simpa using h5⟩
    · exact ⟨s, a, b + 1, e, by simp <;> omega, by simp <;> omega, by simp <;> omega, by simp [h4] <;> omega, by simpa using h5⟩
    · exact ⟨s, a + 1, b, e, by simp <;> omega, by simp <;> omega, by simp <;> omega, by simp [h4] <;> omega, by simpa using h5⟩
    · exact ⟨s, a + 1, b, e, by simp <;> omega, by simp <;> omega, by simp <;> omega, by simp [h4] <;> omega, by simpa using h5⟩
    · exact ⟨s + 1, a, b, e, by simp <;> omega, by simp <;> omega, by simp <;> omega, by simp [h4] <;> omega, by simpa using h5⟩
theorem pows {s a b e : Nat} (he : 1 ≤ e) : 2 ^ (s + a) + 2 ^ (s + b) = 2 ^ (s + (a + b + e)) ↔ a + b + e = 1 := by
  have hs : 0 < 2 ^ s := Nat.two_pow_pos s
  rw [Nat.pow_add, Nat.pow_add, Nat.pow_add, ← Nat.mul_add]
  rw [Nat.mul_left_cancel_iff hs]
  constructor
  · intro h
    have ha := Nat.one_le_two_pow (n := a)
    have hb := Nat.one_le_two_pow (n := b)
    have hab : 2 ^ a + 2 ^ b ≤ 2 ^ a * 2 ^ b + 1 := by
      obtain ⟨p, hp⟩ := Nat.exists_eq_add_of_le ha
      obtain ⟨q, hq⟩ := Nat.exists_eq_add_of_le hb
      have e1 : (1 + p) * (1 + q) = 1 + q + (p + p * q) := by rw [Nat.add_mul, Nat.one_mul, Nat.mul_add, Nat.mul_one]
      rw [hp, hq, e1]
      omega
    rw [← Nat.pow_add] at hab
    by_cases h1 : a + b = 0
    · by_cases h2 : e = 1
      · omega
      · exfalso
        have : 2 ^ 2 ≤ 2 ^ (a + b + e) := Nat.pow_le_pow_right (by decide) (by omega)
        have e1 : a = 0 := by omega
        have e2 : b = 0 := by omega
        subst e1 e2
        simp at *
        omega
    · exfalso
      have h2 : 2 ^ (a + b) * 2 ≤ 2 ^ (a + b + e) := by
        rw [← Nat.pow_succ]
        exact Nat.pow_le_pow_right (by decide) (by omega)
      have h3 : 2 ^ 1 ≤ 2 ^ (a + b) := Nat.pow_le_pow_right (by decide) (by omega)
      omega
  · intro h
    have e1 : a = 0 := by omega
    have e2 : b = 0 := by omega
    have e3 : e = 1 := by omega
    subst e1 e2 e3
    rfl
/-- what joined tells -/
def jo (f g : List Nat) : Option (List Nat) := if (f.zip g).all okp = false ∧ nd (f.zip g) = 1 then some (hulU f g) else none
theorem len_two {f g : List Nat} (hl : f.length = g.length) (hf : Signs f) (hg : Signs g) (h : (f.zip g).all okp = false) : (cor f ++ cor g).length = 2 ^ (hulU f g).count 42 ↔ nd (f.zip g) = 1 := by
  obtain ⟨s, a, b, e, h1, h2, h3, h4, h5⟩ := counts hl hf hg
  have he : 1 ≤ e := by
    rcases Nat.eq_zero_or_pos e with q | q
    · rw [h5.mpr q] at h; cases h
    · exact q
  rw [List.length_append, cor_count, cor_count, h1, h2, h3, h4]
  exact pows he
theorem one_diff : ∀ {zs : List (Nat × Nat)}, nd zs = 1 → ∃ pre x y suf, zs = pre ++ (x, y) :: suf ∧ x ≠ y ∧ (∀ z ∈ pre, z.1 = z.2) ∧ ∀ z ∈ suf, z.1 = z.2
  | [], h => by simp [nd] at h
  | (x, y) :: zs, h => by
    unfold nd at h
    rw [List.filter_cons] at h
    by_cases q : x = y
    · rw [if_neg (by simp [dfp, q])] at h
      obtain ⟨pre, u, v, suf, rfl, k1, k2, k3⟩ := one_diff (zs := zs) h
      exact ⟨(x, y) :: pre, u, v, suf, rfl, k1, fun z hz => by
        rcases List.mem_cons.mp hz with rfl | hz
        · exact q
        · exact k2 z hz, k3⟩
    · rw [if_pos (by simp [dfp, q])] at h
      refine ⟨[], x, y, zs, rfl, q, fun z hz => by simp at hz, fun z hz => ?_⟩
      have h0 : zs.filter dfp = [] := by simpa using h
      have := List.filter_eq_nil_iff.mp h0 z hz
      simpa [dfp] using this
theorem zip_fst {f g : List Nat} (hl : f.length = g.length) : (f.zip g).map (·.1) = f := List.map_fst_zip (by omega)
theorem zip_snd {f g : List Nat} (hl : f.length = g.length) : (f.zip g).map (·.2) = g := List.map_snd_zip (by omega)
theorem ok_eqs {zs : List (Nat × Nat)} (h : ∀ z ∈ zs, z.1 = z.2) : zs.all okp = true := by
  rw [List.all_eq_true]
  intro z hz
  unfold okp
  simp [h z hz]
theorem hup_eqs {zs : List (Nat × Nat)} (h : ∀ z ∈ zs, z.1 = z.2) : zs.map hup = zs.map (·.1) := by
  refine List.map_congr_left fun z hz => ?_
  unfold hup
  rw [if_pos (h z hz)]
theorem filt_eqs {zs : List (Nat × Nat)} (h : ∀ z ∈ zs, z.1 = z.2) : zs.filter dfp = [] := List.filter_eq_nil_iff.mpr fun z hz => by simp [dfp, h z hz]
end G
set_option Elab.async false
set_option linter.all false
set_option maxRecDepth 100000
namespace G
open PySem PySem.Spec PyProof.Rows L2
local macro_rules | `(tactic| ac_rfl) => `(tactic| first
  | (with_reducible first
    | refine s_seq ?_ | refine thn_nx ?_ | refine s_set ?_ | refine w_c ?_ | refine w_op ?_ | refine a_cons ?_ | refine a_nil ?_
    | refine w_call ?_ | refine t_of ?_ | refine s_if ?_ | refine s_nx ?_ | refine ite_T ?_ | refine ite_F ?_ | refine ite_NT ?_ | refine ite_NF ?_ | refine r_cons ?_ | refine r_nil ?_ | refine w_fn ?_ | refine n_fn ?_
    | refine s_own ?_ | refine s_for ?_ | refine i_of ?_ | refine i_args ?_ | refine w_new ?_ | refine n_lc ?_ | refine n_lc2 ?_ | refine n_call ?_
    | refine s_ret ?_ | refine s_retW ?_ | refine s_expr ?_ | refine s_asg ?_ | refine w_if ?_ | refine w_isN ?_ | refine w_notN ?_ | refine w_meth ?_
    | refine w_and ?_ | refine w_or ?_ | refine w_not ?_ | refine t_and ?_ | refine t_or ?_ | refine t_not ?_ | refine t_yes ?_ | refine w_isi ?_ | refine w_sl ?_
    | refine w_oN ?_ | refine w_oS ?_ | refine n_lst ?_ | refine w_neg ?_ | refine w_rev ?_ | refine n_rg1 ?_ | refine s_setIx ?_ | refine thn_rt ?_ | refine thn_rn ?_ | refine thn_bk ?_ | refine thn_ct ?_
    | refine o_addI ?_ | refine o_subI ?_ | refine o_ltI ?_ | refine o_leI ?_ | refine o_gtI ?_ | refine o_geI ?_ | refine o_eqI ?_ | refine o_neI ?_ | refine o_eqS ?_ | refine o_neS ?_
    | refine o_lenL ?_ | refine o_lenT ?_ | refine o_tupL ?_ | refine o_tupT ?_ | refine o_intI ?_ | refine o_intB ?_ | refine o_intAI ?_ | refine o_intAB ?_ | refine o_maxI ?_ | refine o_minI ?_ | refine o_absI ?_ | refine o_iL ?_ | refine o_iT ?_ | refine o_iS ?_ | refine o_lL ?_ | refine o_lT ?_ | refine w_oN ?_
    | refine o_andI ?_ | refine o_orI ?_ | refine o_xorI ?_ | refine s_bk ?_ | refine s_ct ?_ | refine s_retN ?_ | refine nxI_nx ?_ | refine o_gTup0 ?_ | refine o_gLst0 ?_)
  | ((with_reducible apply w_var); focus rfl)
  | ((with_reducible apply w_varO); focus rfl)
  | ((with_reducible apply w_mut); focus rfl)
  | ((with_reducible apply w_ixOwn); focus rfl)
  | ((with_reducible apply w_lenOwn); focus rfl)
  | ((with_reducible apply r_io); focus rfl)
  | ((with_reducible apply r_scr); focus rfl)
  | ((with_reducible apply n_take); focus rfl)
  | ((with_reducible apply w_lenScr); focus rfl)
  | ((with_reducible apply i_scr); focus rfl)
  | ((with_reducible apply n_slScr); focus rfl)
  | ((with_reducible refine o_gTup ?_ ?_); focus (show _ ≤ _; simp only [List.length_cons, List.length_nil]; decide))
  | ((with_reducible refine o_gLst ?_ ?_); focus (show _ ≤ _; simp only [List.length_cons, List.length_nil]; decide))
  | ((with_reducible refine And.intro ?_ ?_); focus (show List.length _ ≤ sizeLine; simp only [List.length_cons, List.length_nil]; decide))
  | ((with_reducible refine And.intro ?_ ?_); focus (with_reducible rfl))
  | (with_reducible refine And.intro (show isStr _ = true from rfl) ?_)
  | ((with_reducible apply o_ixC); focus rfl)
  | (refine ⟨_, rfl, ?_⟩)
  | (refine ⟨_, _, rfl, ?_⟩)
  | (refine ⟨⟨_, _, rfl⟩, ?_⟩)
  | (refine ⟨_, _, _, _, rfl, rfl, rfl, ?_⟩))
theorem leD_tx (a b : List Nat) : leD (.str (tx a)) (.str (tx b)) = decide (a ≤ b) := by
  show (!(decide (b < a) || (!decide (a < b) && false))) = _
  rw [Bool.and_false, Bool.or_false, Bool.eq_iff_iff, Bool.not_eq_true', decide_eq_false_iff_not, decide_eq_true_iff, List.not_lt]
theorem cor_sorted : ∀ {f : List Nat}, Signs f → (cor f).Pairwise (· ≤ ·)
  | [], _ => by simp [cor]
  | s :: f, hf => by
    have ih := cor_sorted (f := f) fun x hx => hf x (by simp [hx])
    have one : ∀ x : Nat, ((cor f).map (x :: ·)).Pairwise (· ≤ ·) := fun x => List.Pairwise.map _ (fun a b q => by rw [List.cons_le_cons_iff]; exact .inr ⟨rfl, q⟩) ih
    rcases hf s (by simp) with rfl | rfl | rfl
    · simpa [cor, ch] using one 48
    · simpa [cor, ch] using one 49
    · have e : cor (42 :: f) = (cor f).map (48 :: ·) ++ (cor f).map (49 :: ·) := by simp [cor, ch]
      rw [e]
      refine List.pairwise_append.mpr ⟨one 48, one 49, fun a ha b hb => ?_⟩
      obtain ⟨x, _, rfl⟩ := List.mem_map.mp ha
      obtain ⟨y, _, rfl⟩ := List.mem_map.mp hb
      rw [List.cons_le_cons_iff]
      exact .inl (by decide)
theorem sort_txs {L M : List (List Nat)} (hp : L.Perm M) (hs : M.Pairwise (· ≤ ·)) : (txs L).mergeSort leD = txs M := by
  have e : (txs L).mergeSort leD = txs (L.mergeSort fun a b => decide (a ≤ b)) := by
    unfold txs
    rw [List.map_mergeSort]
    intro a _ b _
    exact (leD_tx a b).symm
  rw [e]
  congr 1
  refine List.Perm.eq_of_pairwise (le := fun a b : List Nat => a ≤ b) (fun a b _ _ h1 h2 => List.le_antisymm h1 h2) ?_ hs ((List.mergeSort_perm _ _).trans hp)
  have := List.pairwise_mergeSort (le := fun a b : List Nat => decide (a ≤ b)) (fun a b c h1 h2 => by
    simp only [decide_eq_true_eq] at *
    exact List.le_trans h1 h2) (fun a b => by
    simp only [Bool.or_eq_true, decide_eq_true_eq]
    exact List.le_total a b) L
  simpa using this
theorem sortable_txs {L : List (List Nat)} (h : L.length ≤ 1000) : sortable (txs L) = true := by
  have al : ∀ d ∈ txs L, ∃ k, d = .str (tx k) := fun d hd => by
    simp only [txs, List.mem_map] at hd
    obtain ⟨k, _, rfl⟩ := hd
    exact ⟨_, rfl⟩
  unfold sortable
  simp only [Bool.and_eq_true, Bool.or_eq_true, List.all_eq_true, decide_eq_true_eq]
  refine ⟨⟨⟨fun d hd d' hd' => ?_, .inr fun d hd => ?_⟩, fun d hd => ?_⟩, by simp [txs]; exact le_line (by omega)⟩
  · obtain ⟨k, rfl⟩ := al d hd
    obtain ⟨k', rfl⟩ := al d' hd'
    rfl
  · obtain ⟨k, rfl⟩ := al d hd
    rfl
  · obtain ⟨k, rfl⟩ := al d hd
    simp [PyData.depth]
theorem o_sortT {L M : List (List Nat)} {Q : List D → Prop} (h : L.length ≤ 1000) (hp : L.Perm M) (hs : M.Pairwise (· ≤ ·)) (q : Q (txs M)) : WpO (sortDA [.tuple (txs L)]) Q := wpo (by
  show (if sortable (txs L) = true then some ((txs L).mergeSort leD) else none) = _
  rw [if_pos (sortable_txs h), sort_txs hp hs]) q
theorem strsD_txs : ∀ L : List (List Nat), G.strsD (txs L) = some (L.map tx)
  | [] => rfl
  | l :: L => by
    show (G.strsD (txs L)).map _ = _
    rw [strsD_txs L]; rfl
theorem o_lenSet {L : List (List Nat)} {Q : D → Prop} (hn : L.Nodup) (h : L.length ≤ 1000) (q : Q (.int (L.length : Nat))) : WpO (dLenSet [.tuple (txs L)]) Q := by
  refine wpo ?_ q
  show (match G.strsD (txs L) with
    | some ns => if ns.Nodup ∧ ns.length ≤ 4000 then some (PyData.int (ns.length : Nat)) else none
    | none => none) = _
  rw [strsD_txs]
  show (if (L.map tx).Nodup ∧ (L.map tx).length ≤ 4000 then some (PyData.int ((L.map tx).length : Nat)) else none) = _
  rw [if_pos ⟨List.Pairwise.map _ (fun a b q e => q (tx_inj.mp e)) hn, by rw [List.length_map]; omega⟩, List.length_map]
theorem txs_map (b : List (List Nat)) : txs b = (b.map tx).map .str := by simp [txs]
theorem pair_fit (i : Int) {ss : List Str} (h : ∀ s ∈ ss, PyData.canLay0 (.str s) = true) : fit (.tuple [.int i, .tuple (ss.map .str)]) ∧ nb (.tuple [.int i, .tuple (ss.map .str)]) = true := by
  obtain ⟨a1, a2, a3⟩ := fit_strs ss h
  exact ⟨⟨by simp [PyData.canLay0, PyData.canLayAll0, a1], by simp [PyData.depth, PyData.depthAll, a2]⟩, by simp [nb, nbs, a3]⟩
theorem ne_pair (i : Int) {cs : List (List Nat)} (h : ∀ s ∈ cs.map tx, PyData.canLay0 (.str s) = true) : dNe (.tuple [.int i, .tuple (txs cs)]) (.tuple [.int i, .tuple (txs cs)]) = some (.bool false) := by
  rw [txs_map]
  obtain ⟨f, b⟩ := pair_fit i h
  rw [dNe_seq rfl f f, (eqv_iff _ _ b b).mpr rfl]; rfl
theorem list_fit0 (xs : List Str) (h : ∀ s ∈ xs, PyData.canLay0 (.str s) = true) : fit (.list (xs.map .str)) ∧ nb (.list (xs.map .str)) = true := by
  obtain ⟨a1, a2, a3⟩ := fit_strs xs h
  exact ⟨⟨by simpa [PyData.canLay0] using a1, by simp [PyData.depth, a2]⟩, by simpa [nb] using a3⟩
theorem list_inj0 {xs ys : List Str} : (PyData.list (xs.map .str) = .list (ys.map .str)) ↔ xs = ys := by simp [map_str_inj]
def GoodS (A : List (List Nat)) : Prop := ∀ l ∈ A, Signs l
theorem good_lay {A : List (List Nat)} (h : GoodS A) : ∀ s ∈ A.map tx, PyData.canLay0 (.str s) = true := fun s hs => by
  obtain ⟨l, hl, rfl⟩ := List.mem_map.mp hs
  exact lay_tx fun c hc => by rcases h l hl c hc with rfl | rfl | rfl <;> decide
theorem good_cor {f : List Nat} (hf : Signs f) : GoodS (cor f) := fun l hl c hc => by
  rcases cor_codes hf hl c hc with q | q
  · exact .inl q
  · exact .inr (.inl q)
theorem tx_map_inj : ∀ {A B : List (List Nat)}, A.map tx = B.map tx ↔ A = B
  | [], [] => by simp
  | [], _ :: _ => by simp
  | _ :: _, [] => by simp
  | a :: A, b :: B => by simp [tx_map_inj (A := A) (B := B)]
theorem list_fit {A : List (List Nat)} (h : GoodS A) : fit (.list (txs A)) ∧ nb (.list (txs A)) = true := by
  rw [txs_map]
  exact list_fit0 _ (good_lay h)
theorem eqv_txs {A B : List (List Nat)} (ha : GoodS A) (hb : GoodS B) : PyData.eqv (.list (txs A)) (.list (txs B)) = decide (A = B) := by
  rw [Bool.eq_iff_iff, eqv_iff _ _ (list_fit ha).2 (list_fit hb).2, txs_map, txs_map, list_inj0, tx_map_inj, decide_eq_true_iff]
theorem o_neLT {A B : List (List Nat)} {Q : D → Prop} (ha : GoodS A) (hb : GoodS B) (q : Q (.bool (!decide (A = B)))) : WpO (dNe (.list (txs A)) (.list (txs B))) Q := wpo (by rw [dNe_seq rfl (list_fit ha).1 (list_fit hb).1, eqv_txs ha hb]) q
theorem o_eqLT {A B : List (List Nat)} {Q : D → Prop} (ha : GoodS A) (hb : GoodS B) (q : Q (.bool (decide (A = B)))) : WpO (dEq (.list (txs A)) (.list (txs B))) Q := wpo (by rw [dEq_seq rfl (list_fit ha).1 (list_fit hb).1, eqv_txs ha hb]) q
theorem o_neTT {A : List (List Nat)} {Q : D → Prop} (ha : GoodS A) (q : Q (.bool false)) : WpO (dNe (.tuple (txs A)) (.tuple (txs A))) Q := wpo (by rw [txs_map, nev_tupStrs (good_lay ha) (good_lay ha)]; simp) q
theorem hap_mat : ∀ {f c : List Nat}, f.length = c.length → (f.zip c).all hap = mat f c
  | [], [], _ => rfl
  | s :: f, x :: c, h => by
    have ih := hap_mat (f := f) (c := c) (by simpa using h)
    simp only [List.zip_cons_cons, List.all_cons, mat, ih, hap]
theorem mem_mat : ∀ {f l : List Nat}, Signs f → l.length = f.length → Bn l → (l ∈ cor f ↔ mat f l = true)
  | [], [], _, _, _ => by simp [cor, mat]
  | s :: f, x :: l, hf, hl, hb => by
    have ih := mem_mat (f := f) (l := l) (fun y hy => hf y (by simp [hy])) (by simpa using hl) (fun y hy => hb y (by simp [hy]))
    rw [mem_cor] at ih ⊢
    simp only [Mt, mat, Bool.and_eq_true, ← ih]
    have hs := hf s (by simp)
    have hx := hb x (by simp)
    rcases hs with rfl | rfl | rfl <;> rcases hx with rfl | rfl <;> simp [ch]
theorem cor_full_mem {n : Nat} {l : List Nat} (h : l ∈ cor (List.replicate n 42)) : l.length = n ∧ Bn l := ⟨by rw [cor_len h]; simp, cor_codes (sg_rep n) h⟩
theorem filt_cor {f : List Nat} (hf : Signs f) : ((cor (List.replicate f.length 42)).filter fun l => decide (l ∈ cor f)) = cor f := by
  rw [← filter_mat hf]
  refine List.filter_congr fun l hl => ?_
  obtain ⟨h1, h2⟩ := cor_full_mem hl
  rw [filter_mat hf, Bool.eq_iff_iff, decide_eq_true_iff]
  exact mem_mat hf h1 h2
theorem cor_self : ∀ {c : List Nat}, Bn c → cor c = [c]
  | [], _ => rfl
  | x :: c, h => by
    have ih := cor_self (c := c) fun y hy => h y (by simp [hy])
    rcases h x (by simp) with rfl | rfl <;> simp [cor, ch, ih]
end G
set_option Elab.async false
set_option linter.all false
set_option maxRecDepth 100000
namespace G
open PySem PySem.Spec PyProof.Rows L2
local macro_rules | `(tactic| ac_rfl) => `(tactic| first
  | (with_reducible first
    | refine s_seq ?_ | refine thn_nx ?_ | refine s_set ?_ | refine w_c ?_ | refine w_op ?_ | refine a_cons ?_ | refine a_nil ?_
    | refine w_call ?_ | refine t_of ?_ | refine s_if ?_ | refine s_nx ?_ | refine ite_T ?_ | refine ite_F ?_ | refine ite_NT ?_ | refine ite_NF ?_ | refine r_cons ?_ | refine r_nil ?_ | refine w_fn ?_ | refine n_fn ?_
    | refine s_own ?_ | refine s_for ?_ | refine i_of ?_ | refine i_args ?_ | refine w_new ?_ | refine n_lc ?_ | refine n_lc2 ?_ | refine n_call ?_
    | refine s_ret ?_ | refine s_retW ?_ | refine s_expr ?_ | refine s_asg ?_ | refine w_if ?_ | refine w_isN ?_ | refine w_notN ?_ | refine w_meth ?_
    | refine w_and ?_ | refine w_or ?_ | refine w_not ?_ | refine t_and ?_ | refine t_or ?_ | refine t_not ?_ | refine t_yes ?_ | refine w_isi ?_ | refine w_sl ?_
    | refine w_oN ?_ | refine w_oS ?_ | refine n_lst ?_ | refine w_neg ?_ | refine w_rev ?_ | refine n_rg1 ?_ | refine s_setIx ?_ | refine thn_rt ?_ | refine thn_rn ?_ | refine thn_bk ?_ | refine thn_ct ?_
    | refine o_addI ?_ | refine o_subI ?_ | refine o_ltI ?_ | refine o_leI ?_ | refine o_gtI ?_ | refine o_geI ?_ | refine o_eqI ?_ | refine o_neI ?_ | refine o_eqS ?_ | refine o_neS ?_
    | refine o_lenL ?_ | refine o_lenT ?_ | refine o_tupL ?_ | refine o_tupT ?_ | refine o_intI ?_ | refine o_intB ?_ | refine o_intAI ?_ | refine o_intAB ?_ | refine o_maxI ?_ | refine o_minI ?_ | refine o_absI ?_ | refine o_iL ?_ | refine o_iT ?_ | refine o_iS ?_ | refine o_lL ?_ | refine o_lT ?_ | refine w_oN ?_
    | refine o_andI ?_ | refine o_orI ?_ | refine o_xorI ?_ | refine s_bk ?_ | refine s_ct ?_ | refine s_retN ?_ | refine nxI_nx ?_ | refine o_gTup0 ?_ | refine o_gLst0 ?_)
  | ((with_reducible apply w_var); focus rfl)
  | ((with_reducible apply w_varO); focus rfl)
  | ((with_reducible apply w_mut); focus rfl)
  | ((with_reducible apply w_ixOwn); focus rfl)
  | ((with_reducible apply w_lenOwn); focus rfl)
  | ((with_reducible apply r_io); focus rfl)
  | ((with_reducible apply r_scr); focus rfl)
  | ((with_reducible apply n_take); focus rfl)
  | ((with_reducible apply w_lenScr); focus rfl)
  | ((with_reducible apply i_scr); focus rfl)
  | ((with_reducible apply n_slScr); focus rfl)
  | ((with_reducible refine o_gTup ?_ ?_); focus (show _ ≤ _; simp only [List.length_cons, List.length_nil]; decide))
  | ((with_reducible refine o_gLst ?_ ?_); focus (show _ ≤ _; simp only [List.length_cons, List.length_nil]; decide))
  | ((with_reducible refine And.intro ?_ ?_); focus (show List.length _ ≤ sizeLine; simp only [List.length_cons, List.length_nil]; decide))
  | ((with_reducible refine And.intro ?_ ?_); focus (with_reducible rfl))
  | (with_reducible refine And.intro (show isStr _ = true from rfl) ?_)
  | ((with_reducible apply o_ixC); focus rfl)
  | (refine ⟨_, rfl, ?_⟩)
  | (refine ⟨_, _, rfl, ?_⟩)
  | (refine ⟨⟨_, _, rfl⟩, ?_⟩)
  | (refine ⟨_, _, _, _, rfl, rfl, rfl, ?_⟩))
theorem o_app {xs : List D} {y : D} {Q : D × List D → Prop} (h : xs.length ≤ 1000000) (k : Q (.none, xs ++ [y])) : WpO (mAppend xs [y]) Q := wpo (by show (if xs.length < sizeLine then _ else _) = _; rw [if_pos (lt_line h)]) k
theorem o_ext {xs ys : List D} {Q : D × List D → Prop} (h : xs.length + ys.length ≤ 1000000) (k : Q (.none, xs ++ ys)) : WpO (mExtend xs [.list ys]) Q := wpo (by show (if xs.length + ys.length ≤ sizeLine then _ else _) = _; rw [if_pos (le_line h)]) k
theorem done_le {α : Type} {l done rest : List α} {a : α} {n : Nat} (h : l.length ≤ n) (e : l = done ++ a :: rest) : done.length + 1 ≤ n := by rw [e, List.length_append, List.length_cons] at h; omega
def zp (z : Nat × Nat) : D := .tuple [.str (tx [z.1]), .str (tx [z.2])]
def chs (l : List Nat) : List D := l.map fun c => .str (tx [c])
theorem join_chs {l : List Nat} (h : l.length ≤ 1000000) : dJoin (.str (tx [])) [.list (chs l)] = some (.str (tx l)) := join_signs (by omega)
theorem zipD_chs : ∀ f g : List Nat, zipD (chs f) (chs g) = (f.zip g).map zp
  | [], _ => by simp [zipD, chs]
  | _ :: _, [] => by simp [zipD, chs]
  | a :: f, b :: g => by
    have ih := zipD_chs f g
    unfold chs at ih
    simp [zipD, chs, zp, ih]
theorem gzip_tx (f g : List Nat) : gZip [.str (tx f), .str (tx g)] = some ((f.zip g).map zp) := by
  show some (zipD (chs f) (chs g)) = _
  rw [zipD_chs]
def optD : Option (List Nat) → D
  | some h => .str (tx h)
  | none => .none
def pls (zs : List (Nat × Nat)) : List D := ((zs.zipIdx).filter fun z => dfp z.1).map fun z => .int (z.2 : Nat)
theorem idx_len {zs : List (Nat × Nat)} {k : Nat} : ((zs.zipIdx k).filter fun z => dfp z.1).length = nd zs := by
  unfold nd
  induction zs generalizing k with
  | nil => rfl
  | cons z zs ih =>
    simp only [List.zipIdx_cons, List.filter_cons]
    split <;> simp [ih]
theorem pls_len (zs : List (Nat × Nat)) : (pls zs).length = nd zs := by
  unfold pls
  rw [List.length_map, idx_len]
theorem pls_one {pre suf : List (Nat × Nat)} {x y : Nat} (h : x ≠ y) (h1 : ∀ z ∈ pre, z.1 = z.2) (h2 : ∀ z ∈ suf, z.1 = z.2) : pls (pre ++ (x, y) :: suf) = [.int (pre.length : Nat)] := by
  have fe : ∀ (zs : List (Nat × Nat)) (k : Nat), (∀ z ∈ zs, z.1 = z.2) → ((zs.zipIdx k).filter fun z => dfp z.1) = [] := fun zs k hz => by
    have := idx_len (zs := zs) (k := k)
    rw [show nd zs = 0 by unfold nd; rw [filt_eqs hz]; rfl] at this
    simpa using this
  unfold pls
  rw [List.zipIdx_append, List.filter_append, fe _ _ h1, List.nil_append, List.zipIdx_cons, List.filter_cons, if_pos (by simp [dfp, h]), fe _ _ h2]
  simp
theorem cutS_from (l : List Nat) (k : Nat) : cutS (tx l) (some (k : Int)) none = tx (l.drop k) := by
  unfold cutS
  rw [HT.sIx_none, HT.sIx_nat, tx_cps, tx_len]
  show tx _ = _
  rcases Nat.le_total k l.length with h | h
  · rw [Nat.min_eq_left h, List.take_of_length_le (by rw [List.length_drop]; exact Nat.le_refl _)]
  · rw [Nat.min_eq_right h, List.drop_of_length_le (Nat.le_refl _), List.drop_of_length_le h]; simp
theorem cutS_to (l : List Nat) (k : Nat) (h : k ≤ l.length) : cutS (tx l) none (some (k : Int)) = tx (l.take k) := by
  unfold cutS
  rw [HT.sIx_none, HT.sIx_nat, tx_cps, tx_len]
  show tx _ = _
  rw [Nat.min_eq_left h, Nat.sub_zero, List.drop_zero]
theorem o_from {l : List Nat} {k : Nat} {Q : D → Prop} (hl : l.length ≤ 1000000) (q : Q (.str (tx (l.drop k)))) : WpO (dSlA (.str (tx l)) (some (k : Int)) none) Q :=
  wpo (by show (if (tx l).length ≤ sizeLine then some (PyData.str (cutS (tx l) (some (k : Int)) none)) else none) = _; rw [if_pos (by rw [tx_len]; exact le_line hl), cutS_from]) q
theorem o_to {l : List Nat} {k : Nat} {Q : D → Prop} (hl : l.length ≤ 1000000) (hk : k ≤ l.length) (q : Q (.str (tx (l.take k)))) : WpO (dSlA (.str (tx l)) none (some (k : Int))) Q :=
  wpo (by show (if (tx l).length ≤ sizeLine then some (PyData.str (cutS (tx l) none (some (k : Int)))) else none) = _; rw [if_pos (by rw [tx_len]; exact le_line hl), cutS_to l k hk]) q
theorem o_ixSs {a : List Nat} {n c : Nat} {Q : D → Prop} (h : a[n]? = some c) (hl : a.length ≤ 1000000) (k : Q (.str (tx [c]))) : WpO (dIx (.str (tx a)) (.int (n : Nat))) Q := by
  obtain ⟨h1, h2⟩ := List.getElem?_eq_some_iff.mp h
  exact o_ixS h1 hl (by rw [h2]; exact k)
end G
set_option Elab.async false
set_option linter.all false
set_option maxRecDepth 100000
namespace G
open PySem PySem.Spec PyProof.Rows L2
local macro_rules | `(tactic| ac_rfl) => `(tactic| first
  | (with_reducible first
    | refine s_seq ?_ | refine thn_nx ?_ | refine s_set ?_ | refine w_c ?_ | refine w_op ?_ | refine a_cons ?_ | refine a_nil ?_
    | refine w_call ?_ | refine t_of ?_ | refine s_if ?_ | refine s_nx ?_ | refine ite_T ?_ | refine ite_F ?_ | refine ite_NT ?_ | refine ite_NF ?_ | refine r_cons ?_ | refine r_nil ?_ | refine w_fn ?_ | refine n_fn ?_
    | refine s_own ?_ | refine s_for ?_ | refine i_of ?_ | refine i_args ?_ | refine w_new ?_ | refine n_lc ?_ | refine n_lc2 ?_ | refine n_call ?_
    | refine s_ret ?_ | refine s_retW ?_ | refine s_expr ?_ | refine s_asg ?_ | refine w_if ?_ | refine w_isN ?_ | refine w_notN ?_ | refine w_meth ?_
    | refine w_and ?_ | refine w_or ?_ | refine w_not ?_ | refine t_and ?_ | refine t_or ?_ | refine t_not ?_ | refine t_yes ?_ | refine w_isi ?_ | refine w_sl ?_
    | refine w_oN ?_ | refine w_oS ?_ | refine n_lst ?_ | refine w_neg ?_ | refine w_rev ?_ | refine n_rg1 ?_ | refine s_setIx ?_ | refine thn_rt ?_ | refine thn_rn ?_ | refine thn_bk ?_ | refine thn_ct ?_
    | refine o_addI ?_ | refine o_subI ?_ | refine o_ltI ?_ | refine o_leI ?_ | refine o_gtI ?_ | refine o_geI ?_ | refine o_eqI ?_ | refine o_neI ?_ | refine o_eqS ?_ | refine o_neS ?_
    | refine o_lenL ?_ | refine o_lenT ?_ | refine o_tupL ?_ | refine o_tupT ?_ | refine o_intI ?_ | refine o_intB ?_ | refine o_intAI ?_ | refine o_intAB ?_ | refine o_maxI ?_ | refine o_minI ?_ | refine o_absI ?_ | refine o_iL ?_ | refine o_iT ?_ | refine o_iS ?_ | refine o_lL ?_ | refine o_lT ?_ | refine w_oN ?_
    | refine o_andI ?_ | refine o_orI ?_ | refine o_xorI ?_ | refine s_bk ?_ | refine s_ct ?_ | refine s_retN ?_ | refine nxI_nx ?_ | refine o_gTup0 ?_ | refine o_gLst0 ?_)
  | ((with_reducible apply w_var); focus rfl)
  | ((with_reducible apply w_varO); focus rfl)
  | ((with_reducible apply w_mut); focus rfl)
  | ((with_reducible apply w_ixOwn); focus rfl)
  | ((with_reducible apply w_lenOwn); focus rfl)
  | ((with_reducible apply r_io); focus rfl)
  | ((with_reducible apply r_scr); focus rfl)
  | ((with_reducible apply n_take); focus rfl)
  | ((with_reducible apply w_lenScr); focus rfl)
  | ((with_reducible apply i_scr); focus rfl)
  | ((with_reducible apply n_slScr); focus rfl)
  | ((with_reducible refine o_gTup ?_ ?_); focus (show _ ≤ _; simp only [List.length_cons, List.length_nil]; decide))
  | ((with_reducible refine o_gLst ?_ ?_); focus (show _ ≤ _; simp only [List.length_cons, List.length_nil]; decide))
  | ((with_reducible refine And.intro ?_ ?_); focus (show List.length _ ≤ sizeLine; simp only [List.length_cons, List.length_nil]; decide))
  | ((with_reducible refine And.intro ?_ ?_); focus (with_reducible rfl))
  | (with_reducible refine And.intro (show isStr _ = true from rfl) ?_)
  | ((with_reducible apply o_ixC); focus rfl)
  | (refine ⟨_, rfl, ?_⟩)
  | (refine ⟨_, _, rfl, ?_⟩)
  | (refine ⟨⟨_, _, rfl⟩, ?_⟩)
  | (refine ⟨_, _, _, _, rfl, rfl, rfl, ?_⟩))
theorem done_range {n a : Nat} {done rest : List Nat} (h : List.range n = done ++ a :: rest) : a = done.length ∧ a < n := by
  have h1 : (List.range n)[done.length]? = some a := by rw [h]; simp
  have h2 : done.length < n := by
    have := congrArg List.length h
    simp at this; omega
  rw [List.getElem?_range h2] at h1
  cases h1
  exact ⟨rfl, h2⟩
theorem DeckOk.up {b b' : Nat} {ds : List D} (h : DeckOk b ds) (hb : b ≤ b') : DeckOk b' ds := by
  obtain ⟨L, i, v, c, t, k1, k2, k3, k4, k5⟩ := h
  exact ⟨L, i, v, c, t, k1, k2, k3, k4, by omega⟩
section
variable {F : List Sl → RF} {j b : Nat} {ds : List D} {e : En} {t : Option Nat} {Q : D → En → Prop} {X : Xn → En → Prop}
theorem c_next (hF : NextOk F) {m : Int} (hd : DeckOk b ds) (hb : b < 2 ^ 40) (h1 : 1 ≤ m) (h2 : m < 2 ^ 29)
    (k : ∀ (r : Nat) ds', (r : Int) < m → DeckOk (b + 1) ds' → Q (.int r) (e.set j (.own t (.lst ds')))) (h0 : e[j]? = some (.own t (.lst ds)) := by rfl) : Wp (Cl 2 1 F [.io j, .d (.int m)] e) Q X := by
  obtain ⟨r, ds', h, h3, h4, h5⟩ := hF b ds m hd hb h1 h2
  have er : r = ((r.toNat : Nat) : Int) := by omega
  rw [er] at h
  exact c_io h (k r.toNat ds' (by omega) h5) h0 rfl rfl (by unfold resolve; rw [h0]; rfl)
theorem c_bits (hF : BitsOk F) (hd : DeckOk b ds) (hb : b < 2 ^ 39) (k : ∀ (n : Nat) ds', 1 ≤ n → n ≤ 6 → DeckOk (b + 3) ds' → Q (.int n) (e.set j (.own t (.lst ds')))) (h0 : e[j]? = some (.own t (.lst ds)) := by rfl) : Wp (Cl 1 1 F [.io j] e) Q X := by
  obtain ⟨n, ds', h, h3, h4, h5⟩ := hF b ds hd hb
  exact c_io h (k n ds' h3 h4 h5) h0 rfl rfl (by unfold resolve; rw [h0]; rfl)
theorem c_face (hF : FaceOk F) {n : Nat} (hd : DeckOk b ds) (hb : b < 2 ^ 38) (h1 : 1 ≤ n) (h6 : n ≤ 6) (k : ∀ (f : List Nat) ds', f.length = n → Signs f → DeckOk (b + 7) ds' → Q (.str (tx f)) (e.set j (.own t (.lst ds')))) (h0 : e[j]? = some (.own t (.lst ds)) := by rfl) : Wp (Cl 2 1 F [.io j, .d (.int (n : Nat))] e) Q X := by
  obtain ⟨f, ds', h, h3, h4, h5⟩ := hF b ds n hd hb h1 h6
  exact c_io h (k f ds' h3 h4 h5) h0 rfl rfl (by unfold resolve; rw [h0]; rfl)
end
theorem thnEnv {s : XS} {e e' : En} {Q : Fl → En → Prop} {X : Xn → En → Prop} (h : e = e') (k : thn s Q X .nx e') : thn s Q X .nx e := h ▸ k
end G
set_option Elab.async false
set_option linter.all false
set_option maxRecDepth 100000
namespace G
open PySem PySem.Spec PyProof.Rows L2
local macro_rules | `(tactic| ac_rfl) => `(tactic| first
  | (with_reducible first
    | refine s_seq ?_ | refine thn_nx ?_ | refine s_set ?_ | refine w_c ?_ | refine w_op ?_ | refine a_cons ?_ | refine a_nil ?_
    | refine w_call ?_ | refine t_of ?_ | refine s_if ?_ | refine s_nx ?_ | refine ite_T ?_ | refine ite_F ?_ | refine ite_NT ?_ | refine ite_NF ?_ | refine r_cons ?_ | refine r_nil ?_ | refine w_fn ?_ | refine n_fn ?_
    | refine s_own ?_ | refine s_for ?_ | refine i_of ?_ | refine i_args ?_ | refine w_new ?_ | refine n_lc ?_ | refine n_lc2 ?_ | refine n_call ?_
    | refine s_ret ?_ | refine s_retW ?_ | refine s_expr ?_ | refine s_asg ?_ | refine w_if ?_ | refine w_isN ?_ | refine w_notN ?_ | refine w_meth ?_
    | refine w_and ?_ | refine w_or ?_ | refine w_not ?_ | refine t_and ?_ | refine t_or ?_ | refine t_not ?_ | refine t_yes ?_ | refine w_isi ?_ | refine w_sl ?_
    | refine w_oN ?_ | refine w_oS ?_ | refine n_lst ?_ | refine w_neg ?_ | refine w_rev ?_ | refine n_rg1 ?_ | refine s_setIx ?_ | refine thn_rt ?_ | refine thn_rn ?_ | refine thn_bk ?_ | refine thn_ct ?_
    | refine o_addI ?_ | refine o_subI ?_ | refine o_ltI ?_ | refine o_leI ?_ | refine o_gtI ?_ | refine o_geI ?_ | refine o_eqI ?_ | refine o_neI ?_ | refine o_eqS ?_ | refine o_neS ?_
    | refine o_lenL ?_ | refine o_lenT ?_ | refine o_tupL ?_ | refine o_tupT ?_ | refine o_intI ?_ | refine o_intB ?_ | refine o_intAI ?_ | refine o_intAB ?_ | refine o_maxI ?_ | refine o_minI ?_ | refine o_absI ?_ | refine o_iL ?_ | refine o_iT ?_ | refine o_iS ?_ | refine o_lL ?_ | refine o_lT ?_ | refine w_oN ?_
    | refine o_andI ?_ | refine o_orI ?_ | refine o_xorI ?_ | refine s_bk ?_ | refine s_ct ?_ | refine s_retN ?_ | refine nxI_nx ?_ | refine o_gTup0 ?_ | refine o_gLst0 ?_)
  | ((with_reducible apply w_var); focus rfl)
  | ((with_reducible apply w_varO); focus rfl)
  | ((with_reducible apply w_mut); focus rfl)
  | ((with_reducible apply w_ixOwn); focus rfl)
  | ((with_reducible apply w_lenOwn); focus rfl)
  | ((with_reducible apply r_io); focus rfl)
  | ((with_reducible apply r_scr); focus rfl)
  | ((with_reducible apply n_take); focus rfl)
  | ((with_reducible apply w_lenScr); focus rfl)
  | ((with_reducible apply i_scr); focus rfl)
  | ((with_reducible apply n_slScr); focus rfl)
  | ((with_reducible refine o_gTup ?_ ?_); focus (show _ ≤ _; simp only [List.length_cons, List.length_nil]; decide))
  | ((with_reducible refine o_gLst ?_ ?_); focus (show _ ≤ _; simp only [List.length_cons, List.length_nil]; decide))
  | ((with_reducible refine And.intro ?_ ?_); focus (show List.length _ ≤ sizeLine; simp only [List.length_cons, List.length_nil]; decide))
  | ((with_reducible refine And.intro ?_ ?_); focus (with_reducible rfl))
  | (with_reducible refine And.intro (show isStr _ = true from rfl) ?_)
  | ((with_reducible apply o_ixC); focus rfl)
  | (refine ⟨_, rfl, ?_⟩)
  | (refine ⟨_, _, rfl, ?_⟩)
  | (refine ⟨⟨_, _, rfl⟩, ?_⟩)
  | (refine ⟨_, _, _, _, rfl, rfl, rfl, ?_⟩))
local macro_rules | `(tactic| ac_rfl) => `(tactic| first
  | (with_reducible first | refine s_try ?_ | refine s_raise ?_ | refine w_jsC ?_ | refine w_jsN ?_ | refine w_fmt ?_ | refine s_dic ?_ | refine s_putD ?_)
  | ((with_reducible apply w_getD); focus rfl)
  | ((with_reducible apply r_exn); focus rfl))
/-! ### rules of what keeps a field -/
section
variable {e e1 : En} {X : Xn → En → Prop} {p : XE}
theorem m_mkF {nm f : Str} {Q : Xn → En → Prop} (h : Wp (p e) (fun d e1 => fldOk d = true ∧ Q ⟨nm, [(f, d)]⟩ e1) X) : Wp (mMkF nm f p e) Q X := by
  refine wp_bind (wp_mid h fun d e1 ⟨h1, h2⟩ => ?_)
  rw [if_pos h1]
  exact .ok rfl h2
theorem s_raiseM {q : XM} {Q : Fl → En → Prop} (h : Wp (q e) (fun x e1 => X x e1) X) : Wp (sRaiseM q e) Q X := wp_bind (wp_mid h fun _ _ h => .ex rfl h)
theorem r_xv {q : XX} {qr : XR} {Q : List Ar → En → Prop} (h : Wp (q e) (fun x e1 => Wp (qr e1) (fun as e2 => Q (.raw x :: as) e2) X) X) : Wp (rXv q qr e) Q X := wp_bind (wp_mid h fun _ _ h => wp_map h)
theorem w_strX {Q : D → En → Prop} (h : Wp (p e) (fun d e1 => ∃ y, d = .str y ∧ Q (.str y) e1) X) : Wp (eStrX p e) Q X := by
  refine wp_bind (wp_mid h fun d e1 ⟨y, h1, h2⟩ => ?_)
  subst h1
  exact .ok rfl h2
end
/-! ### what is read of a text -/
def okc (c : Nat) : Prop := c = 48 ∨ c = 49
instance (c : Nat) : Decidable (okc c) := inferInstanceAs (Decidable (_ ∨ _))
def fb (m : List Nat) : Option Nat := (List.range m.length).find? fun k => !decide (okc (m.getD k 0))
theorem fb_some {m : List Nat} {k : Nat} (hk : k < m.length) (hb : ¬ okc (m.getD k 0)) (ha : ∀ j, j < k → okc (m.getD j 0)) : fb m = some k := by
  unfold fb
  rw [List.find?_range_eq_some]
  exact ⟨by simpa using hb, List.mem_range.mpr hk, fun j hj => by simpa using ha j hj⟩
theorem fb_none {m : List Nat} (h : ∀ j, j < m.length → okc (m.getD j 0)) : fb m = none := by
  unfold fb
  rw [List.find?_eq_none]
  intro k hk
  simpa using h k (List.mem_range.mp hk)
def bl : Nat → Option Nat
  | 2 => some 1
  | 4 => some 2
  | 8 => some 3
  | 16 => some 4
  | 32 => some 5
  | 64 => some 6
  | _ => none
theorem bl_of {l n : Nat} (h : bl l = some n) : 1 ≤ n ∧ n ≤ 6 ∧ l = 2 ^ n := by
  unfold bl at h
  split at h <;> cases h <;> decide
theorem bl_no {l : Nat} (h : bl l = none) : l ≠ 2 ∧ l ≠ 4 ∧ l ≠ 8 ∧ l ≠ 16 ∧ l ≠ 32 ∧ l ≠ 64 := by
  refine ⟨?_, ?_, ?_, ?_, ?_, ?_⟩ <;> (rintro rfl; cases h)
def pickC (A : List (List Nat)) (m : List Nat) : List (List Nat) := ((A.zip m).filter fun z => decide (z.2 = 49)).map (·.1)
def noS (k : Nat) : Xn := ⟨"NoSet", [("place", .int (k : Nat))]⟩
def setD (k : Nat) : D := .tuple [.str (Str.ofString "set"), .int (k : Nat)]
def goodD (n : Nat) (m : List Nat) : D := .tuple [.int (n : Nat), .tuple (txs (pickC (cor (List.replicate n 42)) m))]
def rdR (m : List Nat) : RF := match fb m with
  | some k => .ex (noS k) []
  | none => match bl m.length with
    | some n => .ok (goodD n m) []
    | none => .ex (noS m.length) []
def dueD (m : List Nat) : D := match fb m with
  | some k => setD k
  | none => match bl m.length with
    | some n => goodD n m
    | none => setD m.length
theorem fld_small : ∀ k : Nat, k ≤ 1000 → fldOk (.int (k : Nat)) = true := by
  have h : ∀ k : Fin 1001, fldOk (.int (k.val : Nat)) = true := by decide +kernel
  exact fun k hk => h ⟨k, by omega⟩
theorem gzip_ct (A : List (List Nat)) (m : List Nat) : zipD (txs A) (m.map fun c => .str (tx [c])) = (A.zip m).map fun z => .tuple [.str (tx z.1), .str (tx [z.2])] := by
  induction A generalizing m with
  | nil => rfl
  | cons a A ih =>
    cases m with
    | nil => rfl
    | cons c m =>
      show _ :: zipD (txs A) (m.map fun c => .str (tx [c])) = _
      rw [ih]; rfl
theorem zip_ix {α : Type} (d : α) : ∀ zs : List α, zs.zipIdx = (List.range zs.length).map fun k => (zs.getD k d, k) := fun zs => by
  refine List.ext_getElem? fun k => ?_
  rw [List.getElem?_zipIdx, List.getElem?_map, Nat.zero_add]
  by_cases h : k < zs.length
  · rw [List.getElem?_range h, List.getElem?_eq_getElem h]
    simp [List.getD_eq_getElem?_getD, List.getElem?_eq_getElem h]
  · rw [List.getElem?_eq_none (by omega), List.getElem?_eq_none (by simp; omega)]
    rfl
theorem enum_tx (m : List Nat) : gEnum [.str (tx m)] = some ((List.range m.length).map fun k => .tuple [.int (k : Nat), .str (tx [m.getD k 0])]) := by
  have h : ∀ (m : List Nat) (k : Nat), enumD k (m.map fun c => .str (tx [c])) = (m.zipIdx k).map fun z : Nat × Nat => .tuple [.int (z.2 : Nat), .str (tx [z.1])] := fun m => by
    induction m with
    | nil => intro k; rfl
    | cons c m ih =>
      intro k
      show _ :: enumD (k + 1) (m.map fun c => .str (tx [c])) = _
      rw [ih]; rfl
  have e : gEnum [.str (tx m)] = some (enumD 0 (m.map fun c => .str (tx [c]))) := by rfl
  rw [e, h, zip_ix 0]
  simp [Function.comp_def]
theorem dLen_tx {m : List Nat} (h : m.length ≤ 1000000) {Q : D → Prop} (q : Q (.int (m.length : Nat))) : WpO (dLen [.str (tx m)]) Q := by
  refine wpo (d := .int (m.length : Nat)) ?_ q
  rw [dLen_str, if_pos (le_line (by rw [tx_len]; omega)), tx_len]
theorem nin_some {l n : Nat} (h : bl l = some n) : dNin (.int (l : Nat)) (.tuple [.int 2, .int 4, .int 8, .int 16, .int 32, .int 64]) = some (.bool false) := by
  unfold bl at h
  split at h <;> cases h <;> rfl
theorem nin_none {l : Nat} (h : bl l = none) : dNin (.int (l : Nat)) (.tuple [.int 2, .int 4, .int 8, .int 16, .int 32, .int 64]) = some (.bool true) := by
  obtain ⟨h1, h2, h3, h4, h5, h6⟩ := bl_no h
  have e0 : ∀ (x : Int) (ys : List D), dNin (.int x) (.tuple ys) = dInQ true (.int x) ys := fun _ _ => rfl
  rw [e0]
  unfold dInQ
  rw [if_pos ⟨rfl, rfl⟩]
  have e : ([PyData.int 2, .int 4, .int 8, .int 16, .int 32, .int 64].any fun y => eqS y (.int (l : Nat))) = false := by
    refine List.any_eq_false.mpr fun y hy => ?_
    simp only [List.mem_cons, List.not_mem_nil, or_false] at hy
    rcases hy with rfl | rfl | rfl | rfl | rfl | rfl <;> (simp only [eqS, beq_iff_eq]; omega)
  rw [e]; rfl
theorem bits_some {l n : Nat} (h : bl l = some n) : ((Builtin.Int.intBits ((l : Nat) : Int) : Nat) : Int) - 1 = n := by
  unfold bl at h
  split at h <;> cases h <;> decide
def RdOk (F : List Sl → RF) : Prop := ∀ m : List Nat, m.length ≤ 1000 → F [.dat (.str (tx m))] = rdR m
theorem readOk : RdOk run_read_set := fun m hm => by
  refine b_runX (Q := fun r => r = rdR m) ?_
  show Wp (body_read_set _ [.dat (.str (tx m)), .un, .un, .un, .un, .un, .un, .un]) _ _
  have hC := corOk
  generalize (fun a => (run_corners_of a).nox) = FC at hC ⊢
  unfold body_read_set
  rw [s_0, s_1]
  repeat ac_rfl
  refine wpo (enum_tx m) ?_
  refine f_go (fun done e => (∀ j, j < done.length → okc (m.getD j 0)) ∧ ∃ x1 x2, e = [.dat (.str (tx m)), x1, x2, .un, .un, .un, .un, .un]) ⟨fun j h => by simp at h, _, _, rfl⟩ ?_ ?_
  · rintro done k rest e hd ⟨hok, x1, x2, rfl⟩
    obtain ⟨hk, hkm⟩ := done_range hd
    refine ⟨_, rfl, ?_⟩
    have good : okc (m.getD k 0) → ∀ j, j < (done ++ [k]).length → okc (m.getD j 0) := fun q j hj => by
      rw [List.length_append, List.length_singleton] at hj
      by_cases e : j = k
      · rw [e]; exact q
      · exact hok j (by omega)
    repeat ac_rfl
    refine ite_nd (fun h0 => ?_) fun h0 => ?_
    · repeat ac_rfl
      refine ite_nd (fun h1 => ?_) fun h1 => ?_
      · refine s_raiseM (m_mkF ?_)
        repeat ac_rfl
        refine ⟨fld_small k (by omega), finX_of ?_⟩
        have e := fb_some hkm (fun q => by
          rcases q with q | q
          · exact h0 (by rw [q])
          · exact h1 (by rw [q])) (by rw [hk]; exact hok)
        unfold rdR
        rw [e]
        rfl
      · repeat ac_rfl
        exact lpk_nx ⟨good (.inr (by simpa using h1)), _, _, rfl⟩
    · repeat ac_rfl
      exact lpk_nx ⟨good (.inl (by simpa using h0)), _, _, rfl⟩
  · rintro e ⟨hok, x1, x2, rfl⟩
    have efb : fb m = none := fb_none fun j hj => hok j (by simpa using hj)
    repeat ac_rfl
    refine dLen_tx (by omega) ?_
    repeat ac_rfl
    cases hb : bl m.length with
    | none =>
      refine wpo (nin_none hb) ?_
      repeat ac_rfl
      refine s_raiseM (m_mkF ?_)
      repeat ac_rfl
      refine ⟨fld_small _ hm, finX_of ?_⟩
      unfold rdR
      rw [efb]
      dsimp only
      rw [hb]
      rfl
    | some n =>
      obtain ⟨h1, h6, hl⟩ := bl_of hb
      refine wpo (nin_some hb) ?_
      repeat ac_rfl
      refine w_bits (w_var rfl ⟨_, rfl, ?_⟩)
      repeat ac_rfl
      rw [bits_some hb]
      repeat ac_rfl
      refine wpo (stars h1 h6) ?_
      repeat ac_rfl
      refine c_ok (hC (List.replicate n 42) (sg_rep n) (by simpa using h6)) ?_
      repeat ac_rfl
      refine wpo (show gZip [.tuple (txs (cor (List.replicate n 42))), .str (tx m)] = some (zipD (txs (cor (List.replicate n 42))) (m.map fun c => .str (tx [c]))) from rfl) ?_
      rw [gzip_ct]
      have lz : ((cor (List.replicate n 42)).zip m).length ≤ 1000 := by rw [List.length_zip]; omega
      refine ⟨lt_line (by rw [List.length_map]; omega), l_pure (γ := List Nat × Nat) (fun z => decide (z.2 = 49)) (fun z => .str (tx z.1)) (fun z hz => ⟨_, rfl, ?_⟩) ?_⟩
      · repeat ac_rfl
        exact ⟨by simp, fun _ => w_var rfl ⟨rfl, rfl⟩, fun _ => rfl⟩
      · rw [List.nil_append]
        repeat ac_rfl
        refine fin_rt ?_
        unfold rdR
        rw [efb]
        dsimp only
        rw [hb]
        simp only [goodD, pickC, txs_map, List.map_map]
        rfl
end G
set_option Elab.async false
set_option linter.all false
set_option maxRecDepth 100000
namespace G
open PySem PySem.Spec PyProof.Rows L2
local macro_rules | `(tactic| ac_rfl) => `(tactic| first
  | (with_reducible first
    | refine s_seq ?_ | refine thn_nx ?_ | refine s_set ?_ | refine w_c ?_ | refine w_op ?_ | refine a_cons ?_ | refine a_nil ?_
    | refine w_call ?_ | refine t_of ?_ | refine s_if ?_ | refine s_nx ?_ | refine ite_T ?_ | refine ite_F ?_ | refine ite_NT ?_ | refine ite_NF ?_ | refine r_cons ?_ | refine r_nil ?_ | refine w_fn ?_ | refine n_fn ?_
    | refine s_own ?_ | refine s_for ?_ | refine i_of ?_ | refine i_args ?_ | refine w_new ?_ | refine n_lc ?_ | refine n_lc2 ?_ | refine n_call ?_
    | refine s_ret ?_ | refine s_retW ?_ | refine s_expr ?_ | refine s_asg ?_ | refine w_if ?_ | refine w_isN ?_ | refine w_notN ?_ | refine w_meth ?_
    | refine w_and ?_ | refine w_or ?_ | refine w_not ?_ | refine t_and ?_ | refine t_or ?_ | refine t_not ?_ | refine t_yes ?_ | refine w_isi ?_ | refine w_sl ?_
    | refine w_oN ?_ | refine w_oS ?_ | refine n_lst ?_ | refine w_neg ?_ | refine w_rev ?_ | refine n_rg1 ?_ | refine s_setIx ?_ | refine thn_rt ?_ | refine thn_rn ?_ | refine thn_bk ?_ | refine thn_ct ?_
    | refine o_addI ?_ | refine o_subI ?_ | refine o_ltI ?_ | refine o_leI ?_ | refine o_gtI ?_ | refine o_geI ?_ | refine o_eqI ?_ | refine o_neI ?_ | refine o_eqS ?_ | refine o_neS ?_
    | refine o_lenL ?_ | refine o_lenT ?_ | refine o_tupL ?_ | refine o_tupT ?_ | refine o_intI ?_ | refine o_intB ?_ | refine o_intAI ?_ | refine o_intAB ?_ | refine o_maxI ?_ | refine o_minI ?_ | refine o_absI ?_ | refine o_iL ?_ | refine o_iT ?_ | refine o_iS ?_ | refine o_lL ?_ | refine o_lT ?_ | refine w_oN ?_
    | refine o_andI ?_ | refine o_orI ?_ | refine o_xorI ?_ | refine s_bk ?_ | refine s_ct ?_ | refine s_retN ?_ | refine nxI_nx ?_ | refine o_gTup0 ?_ | refine o_gLst0 ?_)
  | ((with_reducible apply w_var); focus rfl)
  | ((with_reducible apply w_varO); focus rfl)
  | ((with_reducible apply w_mut); focus rfl)
  | ((with_reducible apply w_ixOwn); focus rfl)
  | ((with_reducible apply w_lenOwn); focus rfl)
  | ((with_reducible apply r_io); focus rfl)
  | ((with_reducible apply r_scr); focus rfl)
  | ((with_reducible apply n_take); focus rfl)
  | ((with_reducible apply w_lenScr); focus rfl)
  | ((with_reducible apply i_scr); focus rfl)
  | ((with_reducible apply n_slScr); focus rfl)
  | ((with_reducible refine o_gTup ?_ ?_); focus (show _ ≤ _; simp only [List.length_cons, List.length_nil]; decide))
  | ((with_reducible refine o_gLst ?_ ?_); focus (show _ ≤ _; simp only [List.length_cons, List.length_nil]; decide))
  | ((with_reducible refine And.intro ?_ ?_); focus (show List.length _ ≤ sizeLine; simp only [List.length_cons, List.length_nil]; decide))
  | ((with_reducible refine And.intro ?_ ?_); focus (with_reducible rfl))
  | (with_reducible refine And.intro (show isStr _ = true from rfl) ?_)
  | ((with_reducible apply o_ixC); focus rfl)
  | (refine ⟨_, rfl, ?_⟩)
  | (refine ⟨_, _, rfl, ?_⟩)
  | (refine ⟨⟨_, _, rfl⟩, ?_⟩)
  | (refine ⟨_, _, _, _, rfl, rfl, rfl, ?_⟩))
local macro_rules | `(tactic| ac_rfl) => `(tactic| first
  | (with_reducible first | refine s_try ?_ | refine s_raise ?_ | refine w_jsC ?_ | refine w_jsN ?_ | refine w_fmt ?_ | refine s_dic ?_ | refine s_putD ?_ | refine m_mkF ?_ | refine s_raiseM ?_ | refine r_xv ?_ | refine w_strX ?_)
  | ((with_reducible apply w_getD); focus rfl)
  | ((with_reducible apply r_exn); focus rfl))
def noC (y : Str) : Xn := ⟨"NoCorner", [("corner", .str y)]⟩
theorem kindS (k : Nat) : (fun a => (run__law_kind a).nox) [.raw (noS k)] = .ok (setD k) [] := nox_ok (by rfl)
theorem kindC : (fun a => (run__law_kind a).nox) [.raw (noC (Str.ofString "01"))] = .ok (.tuple [.str (Str.ofString "corner"), .str (Str.ofString "01")]) [] := nox_ok (by rfl)
/-! ### what is due -/
theorem w_dictG {kvs : List (Key × Key)} {p q : XE} {e : En} {X : Xn → En → Prop} {Q : D → En → Prop} (h : Wp (p e) (fun d e1 => Wp (q e1) (fun x e2 => WpO ((keyD d).map fun k => ((dfind kvs k).map kD).getD x) fun r => Q r e2) X) X) : Wp (eDictG kvs p q e) Q X :=
  wp_bind (wp_mid h fun _ _ h => wp_bind (wp_mid h fun _ _ h => wp_lift h))
abbrev lens : List (Key × Key) := [(.inl 2, .inl 1), (.inl 4, .inl 2), (.inl 8, .inl 3), (.inl 16, .inl 4), (.inl 32, .inl 5), (.inl 64, .inl 6)]
theorem lens_at (l : Nat) : ((keyD (.int (l : Nat))).map fun k => ((dfind lens k).map kD).getD (.int 0)) = some (.int (((bl l).getD 0 : Nat) : Int)) := by
  cases h : bl l with
  | some n =>
    unfold bl at h
    split at h <;> cases h <;> rfl
  | none =>
    obtain ⟨h1, h2, h3, h4, h5, h6⟩ := bl_no h
    have e : ∀ a : Int, a ≠ (l : Int) → decide ((Sum.inl a : Key) = Sum.inl (l : Int)) = false := fun a q => decide_eq_false fun z => q (Sum.inl.inj z)
    have f : dfind lens (.inl (l : Int)) = none := by
      unfold dfind lens
      simp only [List.find?_cons, e 2 (by omega), e 4 (by omega), e 8 (by omega), e 16 (by omega), e 32 (by omega), e 64 (by omega), List.find?_nil, Option.map_none]
    show some (((dfind lens (.inl (l : Int))).map kD).getD (.int 0)) = _
    rw [f]; rfl
def DuOk (F : List Sl → RF) : Prop := ∀ m : List Nat, m.length ≤ 1000 → F [.dat (.str (tx m))] = .ok (dueD m) []
theorem dueOk : DuOk (fun a => (run__law_due a).nox) := fun m hm => by
  refine nox_ok (b_run (Q := fun r => r = .ok (dueD m) []) ?_)
  show Wp (body__law_due _ [.dat (.str (tx m)), .un, .un, .un, .un]) _ _
  have hA := allOk
  generalize (fun a => (run__law_all a).nox) = FA at hA ⊢
  unfold body__law_due
  rw [s_0, s_1]
  repeat ac_rfl
  refine dLen_tx (by omega) ?_
  repeat ac_rfl
  refine wpo (rg1_map (by omega)) ?_
  refine f_go (fun done e => (∀ j, j < done.length → okc (m.getD j 0)) ∧ ∃ x1, e = [.dat (.str (tx m)), x1, .un, .un, .un]) ⟨fun j h => by simp at h, _, rfl⟩ ?_ ?_
  · rintro done k rest e hd ⟨hok, x1, rfl⟩
    obtain ⟨hk, hkm⟩ := done_range hd
    refine ⟨_, rfl, ?_⟩
    have at_ : m[k]? = some (m.getD k 0) := by
      rw [List.getD_eq_getElem?_getD, List.getElem?_eq_getElem hkm]; rfl
    have good : okc (m.getD k 0) → ∀ j, j < (done ++ [k]).length → okc (m.getD j 0) := fun q j hj => by
      rw [List.length_append, List.length_singleton] at hj
      by_cases e : j = k
      · rw [e]; exact q
      · exact hok j (by omega)
    repeat ac_rfl
    refine o_ixSs at_ (by omega) ?_
    repeat ac_rfl
    refine ite_nd (fun h0 => ?_) fun h0 => ?_
    · repeat ac_rfl
      refine o_ixSs at_ (by omega) ?_
      repeat ac_rfl
      refine ite_nd (fun h1 => ?_) fun h1 => ?_
      · repeat ac_rfl
        refine lpk_rt (thn_rt (fin_rt ?_))
        have e := fb_some hkm (fun q => by
          rcases q with q | q
          · exact h0 (by rw [q])
          · exact h1 (by rw [q])) (by rw [hk]; exact hok)
        unfold dueD
        rw [e]
        rfl
      · repeat ac_rfl
        exact lpk_nx ⟨good (.inr (by simpa using h1)), _, rfl⟩
    · repeat ac_rfl
      exact lpk_nx ⟨good (.inl (by simpa using h0)), _, rfl⟩
  · rintro e ⟨hok, x1, rfl⟩
    have efb : fb m = none := fb_none fun j hj => hok j (by simpa using hj)
    refine thn_nx (s_seq (s_set (w_dictG ?_)))
    repeat ac_rfl
    refine dLen_tx (by omega) ?_
    repeat ac_rfl
    refine wpo (lens_at m.length) ?_
    repeat ac_rfl
    cases hb : bl m.length with
    | none =>
      refine ite_d (fun _ => ?_) fun q => absurd rfl q
      repeat ac_rfl
      refine dLen_tx (by omega) ?_
      repeat ac_rfl
      refine fin_rt ?_
      unfold dueD
      rw [efb]
      dsimp only
      rw [hb]
      rfl
    | some n =>
      obtain ⟨h1, h6, hl⟩ := bl_of hb
      refine ite_d (fun q => ?_) fun _ => ?_
      · have : (n : Int) = 0 := q
        omega
      repeat ac_rfl
      refine c_ok (hA n h6) ?_
      repeat ac_rfl
      have eA : allC n = cor (List.replicate n 42) := all_bits h1 h6
      rw [eA]
      refine wpo (show gZip [.list (txs (cor (List.replicate n 42))), .str (tx m)] = some (zipD (txs (cor (List.replicate n 42))) (m.map fun c => .str (tx [c]))) from rfl) ?_
      rw [gzip_ct]
      have lz : ((cor (List.replicate n 42)).zip m).length ≤ 1000 := by rw [List.length_zip]; omega
      refine ⟨lt_line (by rw [List.length_map]; omega), l_pure (γ := List Nat × Nat) (fun z => decide (z.2 = 49)) (fun z => .str (tx z.1)) (fun z hz => ⟨_, rfl, ?_⟩) ?_⟩
      · repeat ac_rfl
        exact ⟨by simp, fun _ => w_var rfl ⟨rfl, rfl⟩, fun _ => rfl⟩
      · rw [List.nil_append]
        repeat ac_rfl
        refine fin_rt ?_
        unfold dueD
        rw [efb]
        dsimp only
        rw [hb]
        simp only [goodD, pickC, txs_map, List.map_map]
        rfl
end G
set_option Elab.async false
set_option linter.all false
set_option maxRecDepth 100000
namespace G
open PySem PySem.Spec PyProof.Rows L2
local macro_rules | `(tactic| ac_rfl) => `(tactic| first
  | (with_reducible first
    | refine s_seq ?_ | refine thn_nx ?_ | refine s_set ?_ | refine w_c ?_ | refine w_op ?_ | refine a_cons ?_ | refine a_nil ?_
    | refine w_call ?_ | refine t_of ?_ | refine s_if ?_ | refine s_nx ?_ | refine ite_T ?_ | refine ite_F ?_ | refine ite_NT ?_ | refine ite_NF ?_ | refine r_cons ?_ | refine r_nil ?_ | refine w_fn ?_ | refine n_fn ?_
    | refine s_own ?_ | refine s_for ?_ | refine i_of ?_ | refine i_args ?_ | refine w_new ?_ | refine n_lc ?_ | refine n_lc2 ?_ | refine n_call ?_
    | refine s_ret ?_ | refine s_retW ?_ | refine s_expr ?_ | refine s_asg ?_ | refine w_if ?_ | refine w_isN ?_ | refine w_notN ?_ | refine w_meth ?_
    | refine w_and ?_ | refine w_or ?_ | refine w_not ?_ | refine t_and ?_ | refine t_or ?_ | refine t_not ?_ | refine t_yes ?_ | refine w_isi ?_ | refine w_sl ?_
    | refine w_oN ?_ | refine w_oS ?_ | refine n_lst ?_ | refine w_neg ?_ | refine w_rev ?_ | refine n_rg1 ?_ | refine s_setIx ?_ | refine thn_rt ?_ | refine thn_rn ?_ | refine thn_bk ?_ | refine thn_ct ?_
    | refine o_addI ?_ | refine o_subI ?_ | refine o_ltI ?_ | refine o_leI ?_ | refine o_gtI ?_ | refine o_geI ?_ | refine o_eqI ?_ | refine o_neI ?_ | refine o_eqS ?_ | refine o_neS ?_
    | refine o_lenL ?_ | refine o_lenT ?_ | refine o_tupL ?_ | refine o_tupT ?_ | refine o_intI ?_ | refine o_intB ?_ | refine o_intAI ?_ | refine o_intAB ?_ | refine o_maxI ?_ | refine o_minI ?_ | refine o_absI ?_ | refine o_iL ?_ | refine o_iT ?_ | refine o_iS ?_ | refine o_lL ?_ | refine o_lT ?_ | refine w_oN ?_
    | refine o_andI ?_ | refine o_orI ?_ | refine o_xorI ?_ | refine s_bk ?_ | refine s_ct ?_ | refine s_retN ?_ | refine nxI_nx ?_ | refine o_gTup0 ?_ | refine o_gLst0 ?_)
  | ((with_reducible apply w_var); focus rfl)
  | ((with_reducible apply w_varO); focus rfl)
  | ((with_reducible apply w_mut); focus rfl)
  | ((with_reducible apply w_ixOwn); focus rfl)
  | ((with_reducible apply w_lenOwn); focus rfl)
  | ((with_reducible apply r_io); focus rfl)
  | ((with_reducible apply r_scr); focus rfl)
  | ((with_reducible apply n_take); focus rfl)
  | ((with_reducible apply w_lenScr); focus rfl)
  | ((with_reducible apply i_scr); focus rfl)
  | ((with_reducible apply n_slScr); focus rfl)
  | ((with_reducible refine o_gTup ?_ ?_); focus (show _ ≤ _; simp only [List.length_cons, List.length_nil]; decide))
  | ((with_reducible refine o_gLst ?_ ?_); focus (show _ ≤ _; simp only [List.length_cons, List.length_nil]; decide))
  | ((with_reducible refine And.intro ?_ ?_); focus (show List.length _ ≤ sizeLine; simp only [List.length_cons, List.length_nil]; decide))
  | ((with_reducible refine And.intro ?_ ?_); focus (with_reducible rfl))
  | (with_reducible refine And.intro (show isStr _ = true from rfl) ?_)
  | ((with_reducible apply o_ixC); focus rfl)
  | (refine ⟨_, rfl, ?_⟩)
  | (refine ⟨_, _, rfl, ?_⟩)
  | (refine ⟨⟨_, _, rfl⟩, ?_⟩)
  | (refine ⟨_, _, _, _, rfl, rfl, rfl, ?_⟩))
local macro_rules | `(tactic| ac_rfl) => `(tactic| first
  | (with_reducible first | refine s_try ?_ | refine s_raise ?_ | refine w_jsC ?_ | refine w_jsN ?_ | refine w_fmt ?_ | refine s_dic ?_ | refine s_putD ?_ | refine m_mkF ?_ | refine s_raiseM ?_ | refine r_xv ?_ | refine w_strX ?_)
  | ((with_reducible apply w_getD); focus rfl)
  | ((with_reducible apply r_exn); focus rfl))
theorem ki_tt : kitB "tuple" "tuple" = some true := by decide +kernel
theorem o_isiTT {ds : List D} {Q : Bool → Prop} (q : Q true) : WpO (kitB (tyN (.tuple ds)) "tuple") Q := wpo ki_tt q
theorem fit_set (k : Nat) : fit (setD k) ∧ nb (setD k) = true := by
  refine ⟨⟨?_, ?_⟩, ?_⟩
  · simp only [setD, PyData.canLay0, PyData.canLayAll0]
    decide +kernel
  · simp only [setD, PyData.depth, PyData.depthAll]
    decide
  · simp [setD, nb, nbs]
theorem good_pick {n : Nat} {m : List Nat} : GoodS (pickC (cor (List.replicate n 42)) m) := fun l hl => by
  simp only [pickC, List.mem_map, List.mem_filter] at hl
  obtain ⟨z, ⟨hz, _⟩, rfl⟩ := hl
  exact good_cor (sg_rep n) _ (List.of_mem_zip (a := z.1) (b := z.2) hz).1
theorem fit_good (n : Nat) (m : List Nat) : fit (goodD n m) ∧ nb (goodD n m) = true := by
  obtain ⟨a1, a2, a3⟩ := fit_strs ((pickC (cor (List.replicate n 42)) m).map tx) (good_lay good_pick)
  unfold goodD
  rw [txs_map]
  refine ⟨⟨?_, ?_⟩, ?_⟩
  · simp only [PyData.canLay0, PyData.canLayAll0, a1]; rfl
  · simp only [PyData.depth, PyData.depthAll, a2]
    decide
  · simp only [nb, nbs, a3]; rfl
theorem o_neSet (k : Nat) {Q : D → Prop} (q : Q (.bool false)) : WpO (dNe (setD k) (setD k)) Q := by
  have f := fit_set k
  refine wpo (d := .bool false) ?_ q
  rw [dNe_seq rfl f.1 f.1, (eqv_iff _ _ f.2 f.2).mpr rfl]
  rfl
theorem o_neGood (n : Nat) (m : List Nat) {Q : D → Prop} (q : Q (.bool false)) : WpO (dNe (goodD n m) (goodD n m)) Q := by
  have f := fit_good n m
  refine wpo (d := .bool false) ?_ q
  rw [dNe_seq rfl f.1 f.1, (eqv_iff _ _ f.2 f.2).mpr rfl]
  rfl
theorem two_ways (m : List Nat) : (∃ k, rdR m = .ex (noS k) [] ∧ dueD m = setD k) ∨ ∃ n, rdR m = .ok (goodD n m) [] ∧ dueD m = goodD n m := by
  unfold rdR dueD
  cases fb m with
  | some k => exact .inl ⟨k, rfl, rfl⟩
  | none =>
    cases bl m.length with
    | some n => exact .inr ⟨n, rfl, rfl⟩
    | none => exact .inl ⟨_, rfl, rfl⟩
def RtOk (F : List Sl → RF) : Prop := ∀ m : List Nat, m.length ≤ 1000 → F [.dat (.str (tx m))] = .ok (.bool true) []
theorem rtOk : RtOk (fun a => (run__law_right a).nox) := fun m hm => by
  refine nox_ok (b_run (Q := fun r => r = .ok (.bool true) []) ?_)
  show Wp (body__law_right run_read_set (fun a => (run__law_kind a).nox) _ [.dat (.str (tx m)), .un, .un, .un, .un, .un]) _ _
  have hR := readOk m hm
  generalize run_read_set = FR at hR ⊢
  have hD := dueOk m hm
  generalize (fun a => (run__law_due a).nox) = FD at hD ⊢
  have hK := kindS
  generalize (fun a => (run__law_kind a).nox) = FK at hK ⊢
  have hw := two_ways m
  unfold body__law_right
  repeat ac_rfl
  refine c_ok hD ?_
  repeat ac_rfl
  refine wpo (show rg1 [.int ((2 : Nat) : Int)] = _ from rg1_map (by decide)) ?_
  refine f_go (fun done e => ∃ x2 x3 x4 x5, e = [.dat (.str (tx m)), .dat (dueD m), x2, x3, x4, x5]) ⟨_, _, _, _, rfl⟩ ?_ ?_
  · rintro done k rest e hd ⟨x2, x3, x4, x5, rfl⟩
    refine ⟨_, rfl, ?_⟩
    rcases hw with ⟨p, h1, h2⟩ | ⟨n, h1, h2⟩
    · rw [h1] at hR
      rw [h2]
      repeat ac_rfl
      refine c_ex hR ⟨true, rfl, fun _ => ?_, fun z => nomatch z⟩
      repeat ac_rfl
      refine wpo (show dIx (setD p) (.int 0) = some (.str (Str.ofString "set")) from rfl) ?_
      repeat ac_rfl
      refine wpo (show dEq (.str (Str.ofString "set")) (.str (Str.ofString "set")) = some (.bool true) from rfl) ?_
      repeat ac_rfl
      refine w_isNX rfl rfl ?_
      repeat ac_rfl
      refine c_ok (hK p) ?_
      repeat ac_rfl
      refine o_neSet p ?_
      repeat ac_rfl
      exact lpk_nx ⟨_, _, _, _, rfl⟩
    · rw [h1] at hR
      rw [h2]
      repeat ac_rfl
      refine c_ok hR ?_
      repeat ac_rfl
      refine wpo (show dIx (goodD n m) (.int 0) = some (.int (n : Nat)) from rfl) ?_
      repeat ac_rfl
      refine wpo (show dEq (.int (n : Nat)) (.str (Str.ofString "set")) = some (.bool false) from rfl) ?_
      repeat ac_rfl
      refine wpo (show kitB (tyN (goodD n m)) "tuple" = some true from ki_tt) ?_
      repeat ac_rfl
      refine o_neGood n m ?_
      repeat ac_rfl
      exact lpk_nx ⟨_, _, _, _, rfl⟩
  · rintro e ⟨x2, x3, x4, x5, rfl⟩
    repeat ac_rfl
    exact fin_rt rfl
end G
set_option Elab.async false
set_option linter.all false
set_option maxRecDepth 100000
namespace G
open PySem PySem.Spec PyProof.Rows L2
local macro_rules | `(tactic| ac_rfl) => `(tactic| first
  | (with_reducible first
    | refine s_seq ?_ | refine thn_nx ?_ | refine s_set ?_ | refine w_c ?_ | refine w_op ?_ | refine a_cons ?_ | refine a_nil ?_
    | refine w_call ?_ | refine t_of ?_ | refine s_if ?_ | refine s_nx ?_ | refine ite_T ?_ | refine ite_F ?_ | refine ite_NT ?_ | refine ite_NF ?_ | refine r_cons ?_ | refine r_nil ?_ | refine w_fn ?_ | refine n_fn ?_
    | refine s_own ?_ | refine s_for ?_ | refine i_of ?_ | refine i_args ?_ | refine w_new ?_ | refine n_lc ?_ | refine n_lc2 ?_ | refine n_call ?_
    | refine s_ret ?_ | refine s_retW ?_ | refine s_expr ?_ | refine s_asg ?_ | refine w_if ?_ | refine w_isN ?_ | refine w_notN ?_ | refine w_meth ?_
    | refine w_and ?_ | refine w_or ?_ | refine w_not ?_ | refine t_and ?_ | refine t_or ?_ | refine t_not ?_ | refine t_yes ?_ | refine w_isi ?_ | refine w_sl ?_
    | refine w_oN ?_ | refine w_oS ?_ | refine n_lst ?_ | refine w_neg ?_ | refine w_rev ?_ | refine n_rg1 ?_ | refine s_setIx ?_ | refine thn_rt ?_ | refine thn_rn ?_ | refine thn_bk ?_ | refine thn_ct ?_
    | refine o_addI ?_ | refine o_subI ?_ | refine o_ltI ?_ | refine o_leI ?_ | refine o_gtI ?_ | refine o_geI ?_ | refine o_eqI ?_ | refine o_neI ?_ | refine o_eqS ?_ | refine o_neS ?_
    | refine o_lenL ?_ | refine o_lenT ?_ | refine o_tupL ?_ | refine o_tupT ?_ | refine o_intI ?_ | refine o_intB ?_ | refine o_intAI ?_ | refine o_intAB ?_ | refine o_maxI ?_ | refine o_minI ?_ | refine o_absI ?_ | refine o_iL ?_ | refine o_iT ?_ | refine o_iS ?_ | refine o_lL ?_ | refine o_lT ?_ | refine w_oN ?_
    | refine o_andI ?_ | refine o_orI ?_ | refine o_xorI ?_ | refine s_bk ?_ | refine s_ct ?_ | refine s_retN ?_ | refine nxI_nx ?_ | refine o_gTup0 ?_ | refine o_gLst0 ?_)
  | ((with_reducible apply w_var); focus rfl)
  | ((with_reducible apply w_varO); focus rfl)
  | ((with_reducible apply w_mut); focus rfl)
  | ((with_reducible apply w_ixOwn); focus rfl)
  | ((with_reducible apply w_lenOwn); focus rfl)
  | ((with_reducible apply r_io); focus rfl)
  | ((with_reducible apply r_scr); focus rfl)
  | ((with_reducible apply n_take); focus rfl)
  | ((with_reducible apply w_lenScr); focus rfl)
  | ((with_reducible apply i_scr); focus rfl)
  | ((with_reducible apply n_slScr); focus rfl)
  | ((with_reducible refine o_gTup ?_ ?_); focus (show _ ≤ _; simp only [List.length_cons, List.length_nil]; decide))
  | ((with_reducible refine o_gLst ?_ ?_); focus (show _ ≤ _; simp only [List.length_cons, List.length_nil]; decide))
  | ((with_reducible refine And.intro ?_ ?_); focus (show List.length _ ≤ sizeLine; simp only [List.length_cons, List.length_nil]; decide))
  | ((with_reducible refine And.intro ?_ ?_); focus (with_reducible rfl))
  | (with_reducible refine And.intro (show isStr _ = true from rfl) ?_)
  | ((with_reducible apply o_ixC); focus rfl)
  | (refine ⟨_, rfl, ?_⟩)
  | (refine ⟨_, _, rfl, ?_⟩)
  | (refine ⟨⟨_, _, rfl⟩, ?_⟩)
  | (refine ⟨_, _, _, _, rfl, rfl, rfl, ?_⟩))
theorem cutS_toA (l : List Nat) (k : Nat) : cutS (tx l) none (some (k : Int)) = tx (l.take k) := by
  rcases Nat.le_total k l.length with h | h
  · exact cutS_to l k h
  · unfold cutS
    rw [HT.sIx_none, HT.sIx_nat, tx_cps, tx_len]
    show tx _ = _
    rw [Nat.min_eq_right h, Nat.sub_zero, List.drop_zero, List.take_of_length_le h, List.take_of_length_le (Nat.le_refl _)]
theorem o_toA {l : List Nat} {k : Nat} {Q : D → Prop} (hl : l.length ≤ 1000000) (q : Q (.str (tx (l.take k)))) : WpO (dSlA (.str (tx l)) none (some (k : Int))) Q :=
  wpo (by show (if (tx l).length ≤ sizeLine then some (PyData.str (cutS (tx l) none (some (k : Int)))) else none) = _; rw [if_pos (by rw [tx_len]; exact le_line hl), cutS_toA l k]) q
theorem o_fromS {l : List Nat} {k : Nat} {Q : D → Prop} (hl : l.length ≤ 1000000) (q : Q (.str (tx (l.drop k)))) : WpO (dSlA (.str (tx l)) (some (k : Int)) none) Q := o_from hl q
theorem o_toM {l : List Nat} {Q : D → Prop} (hl : l.length ≤ 1000000) (q : Q (.str (tx (l.take (l.length - 1))))) : WpO (dSlA (.str (tx l)) none (some (-1))) Q := by
  refine wpo ?_ q
  show (if (tx l).length ≤ sizeLine then some (PyData.str (cutS (tx l) none (some (-1)))) else none) = _
  rw [if_pos (by rw [tx_len]; exact le_line hl)]
  congr 2
  unfold cutS
  rw [HT.sIx_none, tx_cps, tx_len]
  have e : HT.sIx l.length l.length (some (-1)) = l.length - 1 := by
    show (if (-1 : Int) < 0 then ((-1 : Int) + (l.length : Int)).toNat else min (-1 : Int).toNat l.length) = _
    rw [if_pos (by decide)]
    omega
  rw [e, Nat.sub_zero, List.drop_zero]
  rfl
theorem o_ixMem {xs : List D} {r : Nat} {Q : D → Prop} (h : r < xs.length) (q : ∀ d ∈ xs, Q d) : WpO (dIx (.list xs) (.int (r : Nat))) Q := o_ixLs (List.getElem?_eq_getElem h) (q _ (List.getElem_mem _))
theorem str_tx (s : Str) : s = tx s.cps.toList := by
  cases s; simp [tx]
def SgOk (F : List Sl → RF) : Prop := ∀ (b : Nat) (ds : List D), DeckOk b ds → b < 2 ^ 39 → ∃ c ds', F [.own (some 0) (.lst ds)] = .ok (.str (tx [c])) [.lst ds'] ∧ DeckOk (b + 3) ds'
theorem sgOk : SgOk (fun a => (run__law_sign a).nox) := fun b ds hd hb => by
  suffices h : ∃ c ds', run__law_sign [.own (some 0) (.lst ds)] = .ok (.str (tx [c])) [.lst ds'] ∧ DeckOk (b + 3) ds' by
    obtain ⟨c, ds', h1, h2⟩ := h
    exact ⟨c, ds', nox_ok h1, h2⟩
  refine b_run (Q := fun r => ∃ c ds', r = .ok (.str (tx [c])) [.lst ds'] ∧ DeckOk (b + 3) ds') ?_
  show Wp (body__law_sign _ [.own (some 0) (.lst ds), .un]) _ _
  have hN := nextOk
  generalize (fun a => (run__law_next a).nox) = FN at hN ⊢
  unfold body__law_sign
  generalize hS : Str.ofString " !\"#$&'()*+,-./0123456789:;<=>?@ABCDEFGHIJKLMNOPQRSTUVWXYZ[\\]^_`abcdefghijklmnopqrstuvwxyz{|}~\n" = S
  have hl : S.cps.toList.length = 95 := by
    rw [← hS]
    decide +kernel
  rw [str_tx S, show Str.ofString "01*" = tx [48, 49, 42] from rfl]
  generalize S.cps.toList = L at hl ⊢
  repeat ac_rfl
  refine dLen_tx (by omega) ?_
  repeat ac_rfl
  refine c_next hN hd (by omega) (by omega) (by omega) fun r1 d1 hr1 g1 => ?_
  refine o_ixSs (List.getElem?_eq_getElem (show r1 < L.length by omega)) (by omega) ?_
  repeat ac_rfl
  refine c_next hN (m := 3) g1 (by omega) (by omega) (by omega) fun r2 d2 hr2 g2 => ?_
  refine o_ixSs (List.getElem?_eq_getElem (show r2 < [48, 49, 42].length by simp; omega)) (by simp) ?_
  repeat ac_rfl
  refine c_next hN (m := 2) g2 (by omega) (by omega) (by omega) fun r3 d3 hr3 g3 => ?_
  refine o_ixMem (by simp; omega) fun d hdm => ?_
  simp only [List.mem_cons, List.not_mem_nil, or_false] at hdm
  rcases hdm with rfl | rfl
  · exact fin_rt ⟨_, d3, rfl, g3⟩
  · exact fin_rt ⟨_, d3, rfl, g3⟩
end G
set_option Elab.async false
set_option linter.all false
set_option maxRecDepth 100000
namespace G
open PySem PySem.Spec PyProof.Rows L2
local macro_rules | `(tactic| ac_rfl) => `(tactic| first
  | (with_reducible first
    | refine s_seq ?_ | refine thn_nx ?_ | refine s_set ?_ | refine w_c ?_ | refine w_op ?_ | refine a_cons ?_ | refine a_nil ?_
    | refine w_call ?_ | refine t_of ?_ | refine s_if ?_ | refine s_nx ?_ | refine ite_T ?_ | refine ite_F ?_ | refine ite_NT ?_ | refine ite_NF ?_ | refine r_cons ?_ | refine r_nil ?_ | refine w_fn ?_ | refine n_fn ?_
    | refine s_own ?_ | refine s_for ?_ | refine i_of ?_ | refine i_args ?_ | refine w_new ?_ | refine n_lc ?_ | refine n_lc2 ?_ | refine n_call ?_
    | refine s_ret ?_ | refine s_retW ?_ | refine s_expr ?_ | refine s_asg ?_ | refine w_if ?_ | refine w_isN ?_ | refine w_notN ?_ | refine w_meth ?_
    | refine w_and ?_ | refine w_or ?_ | refine w_not ?_ | refine t_and ?_ | refine t_or ?_ | refine t_not ?_ | refine t_yes ?_ | refine w_isi ?_ | refine w_sl ?_
    | refine w_oN ?_ | refine w_oS ?_ | refine n_lst ?_ | refine w_neg ?_ | refine w_rev ?_ | refine n_rg1 ?_ | refine s_setIx ?_ | refine thn_rt ?_ | refine thn_rn ?_ | refine thn_bk ?_ | refine thn_ct ?_
    | refine o_addI ?_ | refine o_subI ?_ | refine o_ltI ?_ | refine o_leI ?_ | refine o_gtI ?_ | refine o_geI ?_ | refine o_eqI ?_ | refine o_neI ?_ | refine o_eqS ?_ | refine o_neS ?_
    | refine o_lenL ?_ | refine o_lenT ?_ | refine o_tupL ?_ | refine o_tupT ?_ | refine o_intI ?_ | refine o_intB ?_ | refine o_intAI ?_ | refine o_intAB ?_ | refine o_maxI ?_ | refine o_minI ?_ | refine o_absI ?_ | refine o_iL ?_ | refine o_iT ?_ | refine o_iS ?_ | refine o_lL ?_ | refine o_lT ?_ | refine w_oN ?_
    | refine o_andI ?_ | refine o_orI ?_ | refine o_xorI ?_ | refine s_bk ?_ | refine s_ct ?_ | refine s_retN ?_ | refine nxI_nx ?_ | refine o_gTup0 ?_ | refine o_gLst0 ?_)
  | ((with_reducible apply w_var); focus rfl)
  | ((with_reducible apply w_varO); focus rfl)
  | ((with_reducible apply w_mut); focus rfl)
  | ((with_reducible apply w_ixOwn); focus rfl)
  | ((with_reducible apply w_lenOwn); focus rfl)
  | ((with_reducible apply r_io); focus rfl)
  | ((with_reducible apply r_scr); focus rfl)
  | ((with_reducible apply n_take); focus rfl)
  | ((with_reducible apply w_lenScr); focus rfl)
  | ((with_reducible apply i_scr); focus rfl)
  | ((with_reducible apply n_slScr); focus rfl)
  | ((with_reducible refine o_gTup ?_ ?_); focus (show _ ≤ _; simp only [List.length_cons, List.length_nil]; decide))
  | ((with_reducible refine o_gLst ?_ ?_); focus (show _ ≤ _; simp only [List.length_cons, List.length_nil]; decide))
  | ((with_reducible refine And.intro ?_ ?_); focus (show List.length _ ≤ sizeLine; simp only [List.length_cons, List.length_nil]; decide))
  | ((with_reducible refine And.intro ?_ ?_); focus (with_reducible rfl))
  | (with_reducible refine And.intro (show isStr _ = true from rfl) ?_)
  | ((with_reducible apply o_ixC); focus rfl)
  | (refine ⟨_, rfl, ?_⟩)
  | (refine ⟨_, _, rfl, ?_⟩)
  | (refine ⟨⟨_, _, rfl⟩, ?_⟩)
  | (refine ⟨_, _, _, _, rfl, rfl, rfl, ?_⟩))
def SpOk (F : List Sl → RF) : Prop := ∀ (b : Nat) (ds : List D) (m : List Nat), DeckOk b ds → b < 2 ^ 30 → m.length ≤ 64 → ∃ m' ds', F [.own (some 0) (.lst ds), .dat (.str (tx m))] = .ok (.str (tx m')) [.lst ds'] ∧ m'.length ≤ 700 ∧ DeckOk (b + 40) ds'
set_option maxHeartbeats 2000000 in
theorem spOk : SpOk (fun a => (run__law_spoilt a).nox) := fun b ds m hd hb hm => by
  suffices h : ∃ m' ds', run__law_spoilt [.own (some 0) (.lst ds), .dat (.str (tx m))] = .ok (.str (tx m')) [.lst ds'] ∧ m'.length ≤ 700 ∧ DeckOk (b + 40) ds' by
    obtain ⟨c, ds', h1, h2⟩ := h
    exact ⟨c, ds', nox_ok h1, h2⟩
  refine b_run (Q := fun r => ∃ m' ds', r = .ok (.str (tx m')) [.lst ds'] ∧ m'.length ≤ 700 ∧ DeckOk (b + 40) ds') ?_
  show Wp (body__law_spoilt _ _ [.own (some 0) (.lst ds), .dat (.str (tx m)), .un, .un, .un, .un]) _ _
  have hN := nextOk
  generalize (fun a => (run__law_next a).nox) = FN at hN ⊢
  have hS := sgOk
  generalize (fun a => (run__law_sign a).nox) = FS at hS ⊢
  unfold body__law_spoilt
  rw [show Str.ofString "01" = tx [48, 49] from rfl]
  repeat ac_rfl
  refine c_next hN (m := 3) hd (by omega) (by omega) (by omega) fun r0 d0 hr0 g0 => ?_
  repeat ac_rfl
  rw [show (1 : Int) + (r0 : Int) = ((1 + r0 : Nat) : Int) by omega]
  refine wpo (rg1_map (by omega)) ?_
  refine f_go (fun done e => ∃ dz t x2 x3 x4 x5, e = [.own (some 0) (.lst dz), .dat (.str (tx t)), x2, x3, x4, x5] ∧ DeckOk (b + 1 + 10 * done.length) dz ∧ t.length + 2 ≤ 66 * 2 ^ done.length) ⟨d0, m, _, _, _, _, rfl, g0, by simp; omega⟩ ?_ ?_
  · rintro done k rest e hr ⟨dz, t, x2, x3, x4, x5, rfl, gz, ht⟩
    refine ⟨_, rfl, ?_⟩
    have dl : done.length ≤ 2 := by
      have := congrArg List.length hr
      simp at this
      omega
    have p4 : 2 ^ done.length ≤ 2 ^ 2 := Nat.pow_le_pow_right (by decide) dl
    have p1 : 1 ≤ 2 ^ done.length := Nat.one_le_two_pow
    have t3 : t.length ≤ 264 := by omega
    repeat ac_rfl
    refine dLen_tx (by omega) ?_
    repeat ac_rfl
    refine c_next hN gz (by omega) (by omega) (by omega) fun r1 d1 hr1 g1 => ?_
    repeat ac_rfl
    refine dLen_tx (by omega) ?_
    repeat ac_rfl
    refine c_next hN (m := 3) g1 (by omega) (by omega) (by omega) fun r2 d2 hr2 g2 => ?_
    refine o_ixMem (by simp; omega) fun d hdm => ?_
    obtain ⟨p, rfl⟩ : ∃ p : Nat, d = .int (p : Nat) := by
      simp only [List.mem_cons, List.not_mem_nil, or_false] at hdm
      rcases hdm with rfl | rfl | rfl
      · exact ⟨r1, rfl⟩
      · exact ⟨t.length - 1, by congr 1; omega⟩
      · exact ⟨0, rfl⟩
    repeat ac_rfl
    obtain ⟨c, d3, c1, g3⟩ := hS _ d2 g2 (by omega)
    refine c_io (i := 0) c1 ?_
    have lt : (t.take p).length ≤ 264 := by rw [List.length_take]; omega
    have ld : ∀ k, (t.drop k).length ≤ 264 := fun k => by rw [List.length_drop]; omega
    have e1 : (p : Int) + 1 = ((p + 1 : Nat) : Int) := by omega
    repeat ac_rfl
    refine o_toA (by omega) ?_
    repeat ac_rfl
    refine o_addS (by simp; omega) ?_
    repeat ac_rfl
    refine o_fromS (by omega) ?_
    refine o_addS (by have := ld p; simp at this ⊢; omega) ?_
    repeat ac_rfl
    refine o_toA (by omega) ?_
    repeat ac_rfl
    refine o_addS (by simp; omega) ?_
    repeat ac_rfl
    rw [e1]
    refine o_fromS (by omega) ?_
    refine o_addS (by have := ld (p + 1); simp at this ⊢; omega) ?_
    repeat ac_rfl
    refine o_toA (by omega) ?_
    repeat ac_rfl
    rw [e1]
    refine o_fromS (by omega) ?_
    refine o_addS (by have := ld (p + 1); simp at this ⊢; omega) ?_
    repeat ac_rfl
    refine o_toA (by omega) ?_
    repeat ac_rfl
    refine o_addS (by omega) ?_
    repeat ac_rfl
    refine c_next hN (m := 2) g3 (by omega) (by omega) (by omega) fun r4 d4 hr4 g4 => ?_
    refine o_ixSs (List.getElem?_eq_getElem (show r4 < [48, 49].length by simp; omega)) (by simp) ?_
    refine o_addS (by simp; omega) ?_
    repeat ac_rfl
    refine o_addL (by simp) ?_
    repeat ac_rfl
    refine c_next hN (m := 6) g4 (by omega) (by omega) (by omega) fun r5 d5 hr5 g5 => ?_
    refine o_ixMem (by simp; omega) fun d hdm => ?_
    obtain ⟨t', rfl, ht'⟩ : ∃ t', d = .str (tx t') ∧ t'.length ≤ 2 * t.length + 2 := by
      simp only [List.mem_append, List.mem_cons, List.not_mem_nil, or_false] at hdm
      have l1 : (t.take p).length ≤ t.length := by rw [List.length_take]; omega
      have l2 : ∀ k, (t.drop k).length ≤ t.length := fun k => by rw [List.length_drop]; omega
      have l3 : (t.take p).length + (t.drop p).length = t.length := by rw [← List.length_append, List.take_append_drop]
      have l4 := l2 (p + 1)
      rcases hdm with (rfl | rfl | rfl | rfl) | rfl | rfl
      all_goals refine ⟨_, rfl, ?_⟩
      all_goals try simp only [List.length_append, List.length_singleton]
      all_goals omega
    refine lpk_nx ⟨d5, t', _, _, _, _, rfl, g5.up (by simp; omega), ?_⟩
    rw [List.length_append, List.length_singleton, Nat.pow_succ]
    omega
  · rintro e ⟨dz, t, x2, x3, x4, x5, rfl, gz, ht⟩
    have p4 : 2 ^ (List.range (1 + r0)).length ≤ 2 ^ 3 := Nat.pow_le_pow_right (by decide) (by simp; omega)
    repeat ac_rfl
    refine o_toA (k := 700) (by omega) ?_
    exact fin_rt ⟨_, dz, rfl, by rw [List.length_take]; omega, gz.up (by simp; omega)⟩
end G
set_option Elab.async false
set_option linter.all false
set_option maxRecDepth 100000
namespace G
open PySem PySem.Spec PyProof.Rows L2
local macro_rules | `(tactic| ac_rfl) => `(tactic| first
  | (with_reducible first
    | refine s_seq ?_ | refine thn_nx ?_ | refine s_set ?_ | refine w_c ?_ | refine w_op ?_ | refine a_cons ?_ | refine a_nil ?_
    | refine w_call ?_ | refine t_of ?_ | refine s_if ?_ | refine s_nx ?_ | refine ite_T ?_ | refine ite_F ?_ | refine ite_NT ?_ | refine ite_NF ?_ | refine r_cons ?_ | refine r_nil ?_ | refine w_fn ?_ | refine n_fn ?_
    | refine s_own ?_ | refine s_for ?_ | refine i_of ?_ | refine i_args ?_ | refine w_new ?_ | refine n_lc ?_ | refine n_lc2 ?_ | refine n_call ?_
    | refine s_ret ?_ | refine s_retW ?_ | refine s_expr ?_ | refine s_asg ?_ | refine w_if ?_ | refine w_isN ?_ | refine w_notN ?_ | refine w_meth ?_
    | refine w_and ?_ | refine w_or ?_ | refine w_not ?_ | refine t_and ?_ | refine t_or ?_ | refine t_not ?_ | refine t_yes ?_ | refine w_isi ?_ | refine w_sl ?_
    | refine w_oN ?_ | refine w_oS ?_ | refine n_lst ?_ | refine w_neg ?_ | refine w_rev ?_ | refine n_rg1 ?_ | refine s_setIx ?_ | refine thn_rt ?_ | refine thn_rn ?_ | refine thn_bk ?_ | refine thn_ct ?_
    | refine o_addI ?_ | refine o_subI ?_ | refine o_ltI ?_ | refine o_leI ?_ | refine o_gtI ?_ | refine o_geI ?_ | refine o_eqI ?_ | refine o_neI ?_ | refine o_eqS ?_ | refine o_neS ?_
    | refine o_lenL ?_ | refine o_lenT ?_ | refine o_tupL ?_ | refine o_tupT ?_ | refine o_intI ?_ | refine o_intB ?_ | refine o_intAI ?_ | refine o_intAB ?_ | refine o_maxI ?_ | refine o_minI ?_ | refine o_absI ?_ | refine o_iL ?_ | refine o_iT ?_ | refine o_iS ?_ | refine o_lL ?_ | refine o_lT ?_ | refine w_oN ?_
    | refine o_andI ?_ | refine o_orI ?_ | refine o_xorI ?_ | refine s_bk ?_ | refine s_ct ?_ | refine s_retN ?_ | refine nxI_nx ?_ | refine o_gTup0 ?_ | refine o_gLst0 ?_)
  | ((with_reducible apply w_var); focus rfl)
  | ((with_reducible apply w_varO); focus rfl)
  | ((with_reducible apply w_mut); focus rfl)
  | ((with_reducible apply w_ixOwn); focus rfl)
  | ((with_reducible apply w_lenOwn); focus rfl)
  | ((with_reducible apply r_io); focus rfl)
  | ((with_reducible apply r_scr); focus rfl)
  | ((with_reducible apply n_take); focus rfl)
  | ((with_reducible apply w_lenScr); focus rfl)
  | ((with_reducible apply i_scr); focus rfl)
  | ((with_reducible apply n_slScr); focus rfl)
  | ((with_reducible refine o_gTup ?_ ?_); focus (show _ ≤ _; simp only [List.length_cons, List.length_nil]; decide))
  | ((with_reducible refine o_gLst ?_ ?_); focus (show _ ≤ _; simp only [List.length_cons, List.length_nil]; decide))
  | ((with_reducible refine And.intro ?_ ?_); focus (show List.length _ ≤ sizeLine; simp only [List.length_cons, List.length_nil]; decide))
  | ((with_reducible refine And.intro ?_ ?_); focus (with_reducible rfl))
  | (with_reducible refine And.intro (show isStr _ = true from rfl) ?_)
  | ((with_reducible apply o_ixC); focus rfl)
  | (refine ⟨_, rfl, ?_⟩)
  | (refine ⟨_, _, rfl, ?_⟩)
  | (refine ⟨⟨_, _, rfl⟩, ?_⟩)
  | (refine ⟨_, _, _, _, rfl, rfl, rfl, ?_⟩))
local macro_rules | `(tactic| ac_rfl) => `(tactic| first
  | (with_reducible first | refine s_try ?_ | refine s_raise ?_ | refine w_jsC ?_ | refine w_jsN ?_ | refine w_fmt ?_ | refine s_dic ?_ | refine s_putD ?_ | refine m_mkF ?_ | refine s_raiseM ?_ | refine r_xv ?_ | refine w_strX ?_ | refine n_addL ?_)
  | ((with_reducible apply w_getD); focus rfl)
  | ((with_reducible apply r_exn); focus rfl))
theorem txs_of (l : List (List Nat)) : (l.map fun t => PyData.str (tx t)) = txs l := rfl
theorem txsApp (a b : List (List Nat)) : txs a ++ txs b = txs (a ++ b) := by unfold txs; rw [List.map_append]
theorem mul60 : dMulS (.str (Str.ofString "x")) (.int 60) = some (.str (tx (List.replicate 60 120))) := by rfl
theorem mul700 : dMulS (.str (Str.ofString "~")) (.int 700) = some (.str (tx (List.replicate 700 126))) := by rfl
theorem mark_chs (cs A : List (List Nat)) : (A.map fun l => PyData.str (tx [if l ∈ cs then 49 else 48])) = chs (markOf cs A) := by
  unfold chs markOf
  rw [List.map_map]; rfl
theorem o_inTx (l : List Nat) (cs : List (List Nat)) {Q : D → Prop} (q : Q (.bool (decide (l ∈ cs)))) : WpO (dIn (.str (tx l)) (.tuple (txs cs))) Q := wpo (dIn_txs l cs) q
theorem o_joinC {l : List Nat} (h : l.length ≤ 1000000) {Q : D → Prop} (q : Q (.str (tx l))) : WpO (dJoin (.str (tx [])) [.list (chs l)]) Q := wpo (join_chs h) q
theorem o_neSS {l : List Nat} (h : ∀ c ∈ l, c < 0x110000) {Q : D → Prop} (q : Q (.bool false)) : WpO (dNe (.list [.str (tx l), .str (tx l)]) (.list [.str (tx l), .str (tx l)])) Q := by
  have f : fit (.list [.str (tx l), .str (tx l)]) ∧ nb (.list [.str (tx l), .str (tx l)]) = true := by
    have := lay_tx h
    refine ⟨⟨?_, ?_⟩, rfl⟩
    · simp only [PyData.canLay0, PyData.canLayAll0] at this ⊢
      rw [this]; rfl
    · simp [PyData.depth, PyData.depthAll]
  refine wpo (d := .bool false) ?_ q
  rw [dNe_seq rfl f.1 f.1, (eqv_iff _ _ f.2 f.2).mpr rfl]
  rfl
def corD : D := .tuple [.str (Str.ofString "corner"), .str (Str.ofString "01")]
theorem fitC : fit corD := ⟨by decide +kernel, by decide +kernel⟩
theorem o_neCor {Q : D → Prop} (q : Q (.bool false)) : WpO (dNe (.tuple [.str (Str.ofString "corner"), .str (Str.ofString "01")]) (.tuple [.str (Str.ofString "corner"), .str (Str.ofString "01")])) Q := by
  refine wpo (d := .bool false) ?_ q
  show dNe corD corD = _
  rw [dNe_seq rfl fitC fitC, (eqv_iff _ _ (by decide +kernel) (by decide +kernel)).mpr rfl]
  rfl
set_option maxHeartbeats 4000000 in
theorem law_true (ns : List Int) (h : ns.length ≤ 63) : run_law [.scr (ns.map .int)] = .ok (.bool true) [] := by
  refine b_run (Q := fun r => r = .ok (.bool true) []) ?_
  show Wp (body_law _ _ _ _ _ (fun a => (run__law_kind a).nox) _ _ _ [.scr (ns.map .int), .un, .un, .un, .un, .un, .un, .un, .un, .un, .un, .un]) _ _
  obtain ⟨ds0, hk, hd0⟩ := run_deck ns h
  have hD : (fun a => (run__law_deck a).nox) [.scr (ns.map .int)] = .new ds0 [] := nox_new hk
  generalize (fun a => (run__law_deck a).nox) = FD at hD ⊢
  have hN := nextOk
  generalize (fun a => (run__law_next a).nox) = FN at hN ⊢
  have hB := bitsOk
  generalize (fun a => (run__law_bits a).nox) = FB at hB ⊢
  have hA := allOk
  generalize (fun a => (run__law_all a).nox) = FA at hA ⊢
  have hS := setOk
  generalize (fun a => (run__law_set a).nox) = FS at hS ⊢
  have hK := kindS
  have hK2 := kindC
  generalize (fun a => (run__law_kind a).nox) = FK at hK hK2 ⊢
  have hG := sgOk
  generalize (fun a => (run__law_sign a).nox) = FG at hG ⊢
  have hZ := spOk
  generalize (fun a => (run__law_spoilt a).nox) = FZ at hZ ⊢
  have hR := rtOk
  generalize (fun a => (run__law_right a).nox) = FR at hR ⊢
  unfold body_law
  rw [s_0, s_e, show Str.ofString "01" = tx [48, 49] from rfl, show Str.ofString " " = tx [32] from rfl, show Str.ofString "\n" = tx [10] from rfl]
  refine s_seq (s_own (n_fn (r_scr rfl (r_nil (c_newN hD ?_)))))
  refine thn_nx (s_cut (I := fun e => ∃ ds x2 x3 x4 x5 x6 x7 x8, e = [.scr (ns.map .int), .own none (.lst ds), x2, x3, x4, x5, x6, x7, x8, .un, .un, .un] ∧ DeckOk 9000 ds) ?_ ?_)
  · repeat ac_rfl
    refine wpo (show rg1 [.int ((6 : Nat) : Int)] = _ from rg1_map (by decide)) ?_
    refine f_go (fun done e => ∃ ds x2 x3 x4 x5 x6 x7 x8, e = [.scr (ns.map .int), .own none (.lst ds), x2, x3, x4, x5, x6, x7, x8, .un, .un, .un] ∧ DeckOk (1300 * done.length) ds) ⟨ds0, _, _, _, _, _, _, _, rfl, hd0⟩ ?_ ?_
    · rintro done k rest e hr ⟨ds, x2, x3, x4, x5, x6, x7, x8, rfl, g0⟩
      refine ⟨_, rfl, ?_⟩
      have dl : done.length ≤ 5 := by
        have := congrArg List.length hr
        simp at this
        omega
      repeat ac_rfl
      refine c_bits hB g0 (by omega) fun n d1 h1 h6 g1 => ?_
      repeat ac_rfl
      obtain ⟨cs, d2, s1, s2, g2⟩ := hS _ d1 n g1 (by omega) h1 h6
      refine c_io (i := 1) s1 ?_
      repeat ac_rfl
      refine c_ok (hA n h6) ?_
      repeat ac_rfl
      have lA : (allC n).length = 2 ^ n := allC_len n
      have l64 : 2 ^ n ≤ 2 ^ 6 := Nat.pow_le_pow_right (by decide) h6
      refine ⟨lt_line (by rw [txs_len]; omega), ?_⟩
      show Wp (lcGo _ _ _ _ ((allC n).map fun l => .str (tx l)) _ _) _ _
      refine l_map (γ := List Nat) (fun l => .str (tx [if l ∈ cs then 49 else 48])) (fun l hl => ⟨_, rfl, ?_⟩) ?_
      · repeat ac_rfl
        refine o_inTx l cs ?_
        repeat ac_rfl
        by_cases hm : l ∈ cs
        · simp only [hm, decide_true, if_true]
          exact o_ixSs (n := 1) (c := 49) rfl (by decide) ⟨rfl, rfl⟩
        · simp only [hm, decide_false, if_false, Bool.false_eq_true]
          exact o_ixSs (n := 0) (c := 48) rfl (by decide) ⟨rfl, rfl⟩
      · rw [List.nil_append, mark_chs]
        have hml : (markOf cs (allC n)).length ≤ 64 := by unfold markOf; rw [List.length_map]; omega
        generalize markOf cs (allC n) = m at hml ⊢
        repeat ac_rfl
        refine o_joinC (by omega) ?_
        repeat ac_rfl
        refine wpo (show rg1 [.int ((6 : Nat) : Int)] = _ from rg1_map (by decide)) ?_
        refine ⟨lt_line (by simp), l_go (fun dn e acc => ∃ (dz : List D) (Ts : List (List Nat)), DeckOk (1300 * done.length + 203 + 40 * dn.length) dz ∧ (∀ t ∈ Ts, t.length ≤ 1000) ∧ Ts.length ≤ dn.length ∧ acc = txs Ts ∧
          e = [.scr (ns.map .int), .own none (.lst dz), .dat (.int (k : Nat)), x3, .dat (.int (n : Nat)), .dat (.tuple (txs cs)), .dat (.str (tx m)), x7, x8, .un, .un, .un]) ⟨d2, [], g2.up (by simp <;> omega), fun t ht => by simp at ht, by simp, rfl, rfl⟩ ?_ ?_⟩
        · rintro dn j rs e acc ha ⟨dz, Ts, gz, hT, hl, rfl, rfl⟩
          refine ⟨_, rfl, ?_⟩
          have dl2 : dn.length ≤ 5 := by
            have := congrArg List.length ha
            simp at this
            omega
          obtain ⟨m', d3, c1, l1, g3⟩ := hZ _ dz m gz (by omega) hml
          repeat ac_rfl
          refine c_io (i := 1) c1 ?_
          refine ⟨d3, Ts ++ [m'], g3.up (by simp; omega), fun t ht => ?_, by simp; omega, by rw [← txsApp]; rfl, rfl⟩
          rcases List.mem_append.mp ht with q | q
          · exact hT t q
          · rw [List.mem_singleton.mp q]; omega
        rintro e acc ⟨d3, Ts, g3, hT, hTl, rfl, rfl⟩
        rw [List.length_range] at hTl g3
        repeat ac_rfl
        refine o_addS (by simp; omega) ?_
        repeat ac_rfl
        refine o_addS (by simp; omega) ?_
        repeat ac_rfl
        refine o_addS (by simp; omega) ?_
        repeat ac_rfl
        refine o_addS (by omega) ?_
        repeat ac_rfl
        refine o_toM (by omega) ?_
        repeat ac_rfl
        refine o_addS (by simp; omega) ?_
        repeat ac_rfl
        refine ⟨_, txs [[32] ++ m, m ++ [32], m ++ [10], m ++ m, m.take (m.length - 1), m ++ [48], m], rfl, rfl, le_line (by rw [txs_len, txs_len]; simp; omega), ?_⟩
        rw [txsApp]
        have hU : ∀ t ∈ Ts ++ [[32] ++ m, m ++ [32], m ++ [10], m ++ m, m.take (m.length - 1), m ++ [48], m], t.length ≤ 1000 := fun t ht => by
          rcases List.mem_append.mp ht with q | q
          · exact hT t q
          · simp only [List.mem_cons, List.not_mem_nil, or_false] at q
            rcases q with rfl | rfl | rfl | rfl | rfl | rfl | rfl
            all_goals try simp only [List.length_append, List.length_singleton, List.length_take]
            all_goals omega
        have hUl : (Ts ++ [[32] ++ m, m ++ [32], m ++ [10], m ++ m, m.take (m.length - 1), m ++ [48], m]).length ≤ 20 := by simp; omega
        generalize Ts ++ [[32] ++ m, m ++ [32], m ++ [10], m ++ m, m.take (m.length - 1), m ++ [48], m] = U at hU hUl ⊢
        repeat ac_rfl
        refine c_next hN (m := 67) g3 (by omega) (by omega) (by omega) fun r1 d4 hr1 g4 => ?_
        repeat ac_rfl
        refine c_next hN (m := 701) g4 (by omega) (by omega) (by omega) fun r2 d5 hr2 g5 => ?_
        repeat ac_rfl
        refine c_next hN (m := 6) g5 (by omega) (by omega) (by omega) fun r3 d6 hr3 g6 => ?_
        refine o_ixMem (by simp; omega) fun d hdm => ?_
        obtain ⟨v, rfl, hv⟩ : ∃ v : Nat, d = .int (v : Nat) ∧ v ≤ 700 := by
          simp only [List.mem_cons, List.not_mem_nil, or_false] at hdm
          rcases hdm with rfl | rfl | rfl | rfl | rfl | rfl
          · exact ⟨r1, rfl, by omega⟩
          · exact ⟨r2, rfl, by omega⟩
          · exact ⟨2, rfl, by omega⟩
          · exact ⟨64, rfl, by omega⟩
          · exact ⟨128, rfl, by omega⟩
          · exact ⟨700, rfl, by omega⟩
        repeat ac_rfl
        refine wpo (rg1_map (by omega)) ?_
        refine ⟨lt_line (by simp; omega), l_go (fun dn e acc => ∃ (dz : List D) (bs : List Nat), DeckOk (1300 * done.length + 446 + dn.length) dz ∧ bs.length = dn.length ∧ acc = chs bs ∧
          e = [.scr (ns.map .int), .own none (.lst dz), .dat (.int (k : Nat)), x3, .dat (.int (n : Nat)), .dat (.tuple (txs cs)), .dat (.str (tx m)), .own none (.lst (txs U)), .dat (.int (v : Nat)), .un, .un, .un]) ⟨d6, [], g6.up (by simp), rfl, rfl, rfl⟩ ?_ ?_⟩
        · rintro dn j rs e acc ha ⟨dz, bs, gz, hb, rfl, rfl⟩
          refine ⟨_, rfl, ?_⟩
          have dl2 : dn.length ≤ 699 := by
            have := congrArg List.length ha
            simp at this
            omega
          repeat ac_rfl
          refine c_next hN (m := 2) gz (by omega) (by omega) (by omega) fun r4 d7 hr4 g7 => ?_
          refine o_ixSs (List.getElem?_eq_getElem (show r4 < [48, 49].length by simp; omega)) (by simp) ?_
          exact ⟨d7, bs ++ [_], g7.up (by simp; omega), by simp [hb], by unfold chs; rw [List.map_append]; rfl, rfl⟩
        rintro e acc ⟨d7, bs, g7, hbl, rfl, rfl⟩
        rw [List.length_range] at hbl g7
        repeat ac_rfl
        refine o_joinC (by omega) ?_
        refine a_nil ⟨_, _, rfl, o_app (by rw [txs_len]; omega) ?_⟩
        have eU : txs U ++ [PyData.str (tx bs)] = txs (U ++ [bs]) := by rw [← txsApp]; rfl
        rw [eU]
        have hV : ∀ t ∈ U ++ [bs], t.length ≤ 1000 := fun t ht => by
          rcases List.mem_append.mp ht with q | q
          · exact hU t q
          · rw [List.mem_singleton.mp q]; omega
        have hVl : (U ++ [bs]).length ≤ 21 := by simp; omega
        generalize U ++ [bs] = V at hV hVl ⊢
        repeat ac_rfl
        obtain ⟨c, d8, c2, g8⟩ := hG _ d7 g7 (by omega)
        refine c_io (i := 1) c2 ?_
        repeat ac_rfl
        refine o_addL (by rw [txs_len]; simp; omega) ?_
        have eV : txs V ++ [PyData.str (tx [c])] = txs (V ++ [[c]]) := by rw [← txsApp]; rfl
        rw [eV]
        have hX : ∀ t ∈ V ++ [[c]], t.length ≤ 1000 := fun t ht => by
          rcases List.mem_append.mp ht with q | q
          · exact hV t q
          · rw [List.mem_singleton.mp q]; simp
        have hXl : (V ++ [[c]]).length ≤ 22 := by simp; omega
        generalize V ++ [[c]] = Y at hX hXl ⊢
        repeat ac_rfl
        refine ⟨lt_line (by rw [txs_len]; omega), ?_⟩
        show Wp (lcGo _ _ _ _ (Y.map fun l => .str (tx l)) _ _) _ _
        refine l_pure (γ := List Nat) (fun _ => false) (fun _ => .none) (fun t ht => ⟨_, rfl, ?_⟩) ?_
        · repeat ac_rfl
          refine c_ok (hR t (hX t ht)) ?_
          exact ⟨_, rfl, rfl, fun z => (nomatch z), fun _ => rfl⟩
        · have nof : ([] ++ List.map (fun _ => PyData.none) (List.filter (fun _ => false) Y) : List D) = [] := by simp
          rw [nof]
          repeat ac_rfl
          refine wpo (d := .bool false) rfl ?_
          repeat ac_rfl
          exact lpk_nx ⟨d8, _, _, _, _, _, _, _, rfl, g8.up (by simp; omega)⟩
    · rintro e ⟨ds, x2, x3, x4, x5, x6, x7, x8, rfl, g0⟩
      exact nxI_nx ⟨_, _, _, _, _, _, _, _, rfl, g0.up (by simp)⟩
  · rintro e ⟨ds, x2, x3, x4, x5, x6, x7, x8, rfl, g0⟩
    repeat ac_rfl
    refine wpo mul60 ?_
    repeat ac_rfl
    refine o_addS (by simp) ?_
    repeat ac_rfl
    refine c_next hN (m := 4) g0 (by omega) (by omega) (by omega) fun r1 d1 hr1 g1 => ?_
    rw [show Str.ofString " No such: 7" = tx [32, 78, 111, 32, 115, 117, 99, 104, 58, 32, 55] from rfl, show Str.ofString "a  B" = tx [97, 32, 32, 66] from rfl]
    refine o_ixMem (by simp; omega) fun d hdm => ?_
    obtain ⟨l, rfl, hl⟩ : ∃ l : List Nat, d = .str (tx l) ∧ ∀ c ∈ l, c < 0x110000 := by
      simp only [List.mem_cons, List.not_mem_nil, or_false] at hdm
      rcases hdm with rfl | rfl | rfl | rfl
      · exact ⟨_, rfl, by decide⟩
      · exact ⟨_, rfl, by decide⟩
      · exact ⟨_, rfl, by decide⟩
      · exact ⟨_, rfl, by decide⟩
    repeat ac_rfl
    refine wpo (show dMul (.list [.str (tx l)]) (.int 2) = some (.list [.str (tx l), .str (tx l)]) from rfl) ?_
    refine o_neSS hl ?_
    repeat ac_rfl
    refine ⟨by decide +kernel, ?_⟩
    repeat ac_rfl
    refine c_ok (hK 7) ?_
    repeat ac_rfl
    refine o_neSet 7 ?_
    repeat ac_rfl
    refine ⟨by decide +kernel, ?_⟩
    repeat ac_rfl
    refine c_ok hK2 ?_
    repeat ac_rfl
    refine o_neCor ?_
    repeat ac_rfl
    refine wpo mul700 ?_
    rw [show Str.ofString "1" = tx [49] from rfl, show Str.ofString "00" = tx [48, 48] from rfl, show Str.ofString "000" = tx [48, 48, 48] from rfl, show Str.ofString "0 01" = tx [48, 32, 48, 49] from rfl, show Str.ofString "01 0" = tx [48, 49, 32, 48] from rfl, show Str.ofString "2" = tx [50] from rfl]
    refine a_nil (o_gLst (by simp) ?_)
    have eL : ([.str (tx []), .str (tx [48]), .str (tx [49]), .str (tx [48, 48]), .str (tx [48, 48, 48]), .str (tx [48, 32, 48, 49]), .str (tx [48, 49, 32, 48]), .str (tx [50]), .str (tx (List.replicate 700 126))] : List D) =
        txs [[], [48], [49], [48, 48], [48, 48, 48], [48, 32, 48, 49], [48, 49, 32, 48], [50], List.replicate 700 126] := rfl
    rw [eL]
    have hX : ∀ t ∈ [[], [48], [49], [48, 48], [48, 48, 48], [48, 32, 48, 49], [48, 49, 32, 48], [50], List.replicate 700 126], t.length ≤ 1000 := fun t ht => by
      simp only [List.mem_cons, List.not_mem_nil, or_false] at ht
      rcases ht with rfl | rfl | rfl | rfl | rfl | rfl | rfl | rfl | rfl
      all_goals simp
    have hXl : [[], [48], [49], [48, 48], [48, 48, 48], [48, 32, 48, 49], [48, 49, 32, 48], [50], List.replicate 700 126].length ≤ 22 := by simp
    generalize [[], [48], [49], [48, 48], [48, 48, 48], [48, 32, 48, 49], [48, 49, 32, 48], [50], List.replicate 700 126] = Y at hX hXl ⊢
    repeat ac_rfl
    refine ⟨lt_line (by rw [txs_len]; omega), ?_⟩
    show Wp (lcGo _ _ _ _ (Y.map fun l => .str (tx l)) _ _) _ _
    refine l_pure (γ := List Nat) (fun _ => false) (fun _ => .none) (fun t ht => ⟨_, rfl, ?_⟩) ?_
    · repeat ac_rfl
      refine c_ok (hR t (hX t ht)) ?_
      exact ⟨_, rfl, rfl, fun z => (nomatch z), fun _ => rfl⟩
    · have nof : ([] ++ List.map (fun _ => PyData.none) (List.filter (fun _ => false) Y) : List D) = [] := by simp
      rw [nof]
      repeat ac_rfl
      refine wpo (d := .bool true) rfl ?_
      exact fin_rt rfl
end G
namespace G
open PySem PySem.Spec PyProof.Rows L2

def spLaw (K : Frag) : Sp := fun vs H Q _ => ∃ (a : Addr) (ns : List Int), vs = [.ref a] ∧ SqL K H a (ns.map V.int) ∧ ns.length ≤ 63 ∧ ∀ H', Q (.bl true) H'
theorem ints_dq {K : Frag} {Z : Hp} : ∀ ns : List Int, DqAll K Z (ns.map V.int) (ns.map PyData.int)
  | [] => .nil
  | n :: ns => .cons (.int n) (ints_dq ns)
theorem law_sp {K : Frag} {mg : Str → Option Value} {vs : List V} {H : Hp} {Q : VK} {E : XK} (h : spLaw K vs H Q E) : spF K mg 1 0 (fun x => (run_law x).nox) vs H Q E := by
  obtain ⟨a, ns, rfl, hS, hl, hq⟩ := h
  refine ⟨rfl, H, [.scr (ns.map .int)], [], rfl, Same.refl H, .cons ⟨a, _, rfl, hS, ints_dq ns⟩ .nil, fun i j t u x y _ h1 => ?_, fun p hp => (nomatch hp), ?_⟩
  · cases i with
    | zero => cases h1
    | succ i => cases h1
  · show (match (run_law [.scr (ns.map .int)]).nox with
      | .ok d outs => ∀ v Z' H', After K [] H H outs Z' H' → Dq K Z' v d → Q v H'
      | .new ds outs => ∀ p vs Z' H', After K [] H H outs Z' H' → H p = none → H' p = some (.lst vs) → Z' p = none → DqAll K Z' vs ds → Q (.ref p) H'
      | .ex x outs => ∀ c dd Z' H', After K [] H H outs Z' H' → XnOk K mg Z' H' x c dd → E c dd H'
      | .bad => False)
    rw [law_true ns hl]
    intro v Z' H' _ hd
    cases hd
    exact hq H'
theorem all_mk {l : PySem.W.OpenLaw} {w : World} {K : Frag} {h : Heap} {mg : Str → Option Value} {fa : Addr} (X : K.In h) (G0 : h.Ns mainGlobals mg) (hfa : mg "law" = some (.ref fa))
    {f0 : Addr} {oc0 kV0 dc0 pm0 cd0 ct0 : Value} {od0 an0 : Option Addr} {sl0 : Array (Option Value)} {f1 : Addr} {oc1 kV1 dc1 pm1 cd1 ct1 : Value} {od1 an1 : Option Addr} {sl1 : Array (Option Value)} {f2 : Addr} {oc2 kV2 dc2 pm2 cd2 ct2 : Value} {od2 an2 : Option Addr} {sl2 : Array (Option Value)} {f3 : Addr} {oc3 kV3 dc3 pm3 cd3 ct3 : Value} {od3 an3 : Option Addr} {sl3 : Array (Option Value)} {f4 : Addr} {oc4 kV4 dc4 pm4 cd4 ct4 : Value} {od4 an4 : Option Addr} {sl4 : Array (Option Value)} {f5 : Addr} {oc5 kV5 dc5 pm5 cd5 ct5 : Value} {od5 an5 : Option Addr} {sl5 : Array (Option Value)} {f6 : Addr} {oc6 kV6 dc6 pm6 cd6 ct6 : Value} {od6 an6 : Option Addr} {sl6 : Array (Option Value)} {f7 : Addr} {oc7 kV7 dc7 pm7 cd7 ct7 : Value} {od7 an7 : Option Addr} {sl7 : Array (Option Value)} {f8 : Addr} {oc8 kV8 dc8 pm8 cd8 ct8 : Value} {od8 an8 : Option Addr} {sl8 : Array (Option Value)} {f9 : Addr} {oc9 kV9 dc9 pm9 cd9 ct9 : Value} {od9 an9 : Option Addr} {sl9 : Array (Option Value)} {f10 : Addr} {oc10 kV10 dc10 pm10 cd10 ct10 : Value} {od10 an10 : Option Addr} {sl10 : Array (Option Value)} {f11 : Addr} {oc11 kV11 dc11 pm11 cd11 ct11 : Value} {od11 an11 : Option Addr} {sl11 : Array (Option Value)} {f12 : Addr} {oc12 kV12 dc12 pm12 cd12 ct12 : Value} {od12 an12 : Option Addr} {sl12 : Array (Option Value)} {f13 : Addr} {oc13 kV13 dc13 pm13 cd13 ct13 : Value} {od13 an13 : Option Addr} {sl13 : Array (Option Value)} {f14 : Addr} {oc14 kV14 dc14 pm14 cd14 ct14 : Value} {od14 an14 : Option Addr} {sl14 : Array (Option Value)} {f15 : Addr} {oc15 kV15 dc15 pm15 cd15 ct15 : Value} {od15 an15 : Option Addr} {sl15 : Array (Option Value)} {kc_SET_LENGTHS : Addr} {ko_SET_LENGTHS : Option Addr} {kn_SET_LENGTHS : Nat} {ks_SET_LENGTHS : Array (Option Value)} {kt_SET_LENGTHS0 kt_SET_LENGTHS1 kt_SET_LENGTHS2 kt_SET_LENGTHS3 kt_SET_LENGTHS4 kt_SET_LENGTHS5 : Tok} {xFaceError xNoParting xNoAsk xNoSet xNoCorner : Addr} {yNoSet : Addr} {yoNoSet ykNoSet ydNoSet ypNoSet ycNoSet ytNoSet : Value} {yeNoSet yaNoSet : Option Addr} {ysNoSet : Array (Option Value)} {znNoSet zqNoSet : Str} {zNNoSet : Addr} {zbNoSet zsNoSet : List Value} {zlNoSet : List Str} {zaNoSet : Bool} {zcNoSet : Option Bool} {zdNoSet : Option Addr} {z0NoSet z1NoSet z2NoSet z3NoSet z5NoSet : Option Value} {yNoCorner : Addr} {yoNoCorner ykNoCorner ydNoCorner ypNoCorner ycNoCorner ytNoCorner : Value} {yeNoCorner yaNoCorner : Option Addr} {ysNoCorner : Array (Option Value)} {znNoCorner zqNoCorner : Str} {zNNoCorner : Addr} {zbNoCorner zsNoCorner : List Value} {zlNoCorner : List Str} {zaNoCorner : Bool} {zcNoCorner : Option Bool} {zdNoCorner : Option Addr} {z0NoCorner z1NoCorner z2NoCorner z3NoCorner z5NoCorner : Option Value}
    (a0 : PySem.W.nsIn K mainGlobals "corners_of" = some (some (.ref f0))) (l0 : K.lookup f0 = some ⟨oc0, od0, .func (PySem.W.fnOf "corners_of" "corners_of" (defArgs s_corners_of) (defBody s_corners_of) (defScope s_corners_of) .none kV0 dc0 pm0 an0 cd0 ct0), sl0⟩) (c0 : PySem.W.codeIn K cd0 "corners_of" = true) (k0 : PySem.W.keepIn K (.ref f0) = true)
    (a1 : PySem.W.nsIn K mainGlobals "read_set" = some (some (.ref f1))) (l1 : K.lookup f1 = some ⟨oc1, od1, .func (PySem.W.fnOf "read_set" "read_set" (defArgs s_read_set) (defBody s_read_set) (defScope s_read_set) .none kV1 dc1 pm1 an1 cd1 ct1), sl1⟩) (c1 : PySem.W.codeIn K cd1 "read_set" = true) (k1 : PySem.W.keepIn K (.ref f1) = true)
    (a2 : PySem.W.nsIn K mainGlobals "_law_mix" = some (some (.ref f2))) (l2 : K.lookup f2 = some ⟨oc2, od2, .func (PySem.W.fnOf "_law_mix" "_law_mix" (defArgs s__law_mix) (defBody s__law_mix) (defScope s__law_mix) .none kV2 dc2 pm2 an2 cd2 ct2), sl2⟩) (c2 : PySem.W.codeIn K cd2 "_law_mix" = true) (k2 : PySem.W.keepIn K (.ref f2) = true)
    (a3 : PySem.W.nsIn K mainGlobals "_law_deck" = some (some (.ref f3))) (l3 : K.lookup f3 = some ⟨oc3, od3, .func (PySem.W.fnOf "_law_deck" "_law_deck" (defArgs s__law_deck) (defBody s__law_deck) (defScope s__law_deck) .none kV3 dc3 pm3 an3 cd3 ct3), sl3⟩) (c3 : PySem.W.codeIn K cd3 "_law_deck" = true) (k3 : PySem.W.keepIn K (.ref f3) = true)
    (a4 : PySem.W.nsIn K mainGlobals "_law_next" = some (some (.ref f4))) (l4 : K.lookup f4 = some ⟨oc4, od4, .func (PySem.W.fnOf "_law_next" "_law_next" (defArgs s__law_next) (defBody s__law_next) (defScope s__law_next) .none kV4 dc4 pm4 an4 cd4 ct4), sl4⟩) (c4 : PySem.W.codeIn K cd4 "_law_next" = true) (k4 : PySem.W.keepIn K (.ref f4) = true)
    (a5 : PySem.W.nsIn K mainGlobals "_law_bits" = some (some (.ref f5))) (l5 : K.lookup f5 = some ⟨oc5, od5, .func (PySem.W.fnOf "_law_bits" "_law_bits" (defArgs s__law_bits) (defBody s__law_bits) (defScope s__law_bits) .none kV5 dc5 pm5 an5 cd5 ct5), sl5⟩) (c5 : PySem.W.codeIn K cd5 "_law_bits" = true) (k5 : PySem.W.keepIn K (.ref f5) = true)
    (a6 : PySem.W.nsIn K mainGlobals "_law_face" = some (some (.ref f6))) (l6 : K.lookup f6 = some ⟨oc6, od6, .func (PySem.W.fnOf "_law_face" "_law_face" (defArgs s__law_face) (defBody s__law_face) (defScope s__law_face) .none kV6 dc6 pm6 an6 cd6 ct6), sl6⟩) (c6 : PySem.W.codeIn K cd6 "_law_face" = true) (k6 : PySem.W.keepIn K (.ref f6) = true)
    (a7 : PySem.W.nsIn K mainGlobals "_law_all" = some (some (.ref f7))) (l7 : K.lookup f7 = some ⟨oc7, od7, .func (PySem.W.fnOf "_law_all" "_law_all" (defArgs s__law_all) (defBody s__law_all) (defScope s__law_all) .none kV7 dc7 pm7 an7 cd7 ct7), sl7⟩) (c7 : PySem.W.codeIn K cd7 "_law_all" = true) (k7 : PySem.W.keepIn K (.ref f7) = true)
    (a8 : PySem.W.nsIn K mainGlobals "_law_lies" = some (some (.ref f8))) (l8 : K.lookup f8 = some ⟨oc8, od8, .func (PySem.W.fnOf "_law_lies" "_law_lies" (defArgs s__law_lies) (defBody s__law_lies) (defScope s__law_lies) .none kV8 dc8 pm8 an8 cd8 ct8), sl8⟩) (c8 : PySem.W.codeIn K cd8 "_law_lies" = true) (k8 : PySem.W.keepIn K (.ref f8) = true)
    (a9 : PySem.W.nsIn K mainGlobals "_law_set" = some (some (.ref f9))) (l9 : K.lookup f9 = some ⟨oc9, od9, .func (PySem.W.fnOf "_law_set" "_law_set" (defArgs s__law_set) (defBody s__law_set) (defScope s__law_set) .none kV9 dc9 pm9 an9 cd9 ct9), sl9⟩) (c9 : PySem.W.codeIn K cd9 "_law_set" = true) (k9 : PySem.W.keepIn K (.ref f9) = true)
    (a10 : PySem.W.nsIn K mainGlobals "_law_kind" = some (some (.ref f10))) (l10 : K.lookup f10 = some ⟨oc10, od10, .func (PySem.W.fnOf "_law_kind" "_law_kind" (defArgs s__law_kind) (defBody s__law_kind) (defScope s__law_kind) .none kV10 dc10 pm10 an10 cd10 ct10), sl10⟩) (c10 : PySem.W.codeIn K cd10 "_law_kind" = true) (k10 : PySem.W.keepIn K (.ref f10) = true)
    (a11 : PySem.W.nsIn K mainGlobals "_law_sign" = some (some (.ref f11))) (l11 : K.lookup f11 = some ⟨oc11, od11, .func (PySem.W.fnOf "_law_sign" "_law_sign" (defArgs s__law_sign) (defBody s__law_sign) (defScope s__law_sign) .none kV11 dc11 pm11 an11 cd11 ct11), sl11⟩) (c11 : PySem.W.codeIn K cd11 "_law_sign" = true) (k11 : PySem.W.keepIn K (.ref f11) = true)
    (a12 : PySem.W.nsIn K mainGlobals "_law_spoilt" = some (some (.ref f12))) (l12 : K.lookup f12 = some ⟨oc12, od12, .func (PySem.W.fnOf "_law_spoilt" "_law_spoilt" (defArgs s__law_spoilt) (defBody s__law_spoilt) (defScope s__law_spoilt) .none kV12 dc12 pm12 an12 cd12 ct12), sl12⟩) (c12 : PySem.W.codeIn K cd12 "_law_spoilt" = true) (k12 : PySem.W.keepIn K (.ref f12) = true)
    (a13 : PySem.W.nsIn K mainGlobals "_law_due" = some (some (.ref f13))) (l13 : K.lookup f13 = some ⟨oc13, od13, .func (PySem.W.fnOf "_law_due" "_law_due" (defArgs s__law_due) (defBody s__law_due) (defScope s__law_due) .none kV13 dc13 pm13 an13 cd13 ct13), sl13⟩) (c13 : PySem.W.codeIn K cd13 "_law_due" = true) (k13 : PySem.W.keepIn K (.ref f13) = true)
    (a14 : PySem.W.nsIn K mainGlobals "_law_right" = some (some (.ref f14))) (l14 : K.lookup f14 = some ⟨oc14, od14, .func (PySem.W.fnOf "_law_right" "_law_right" (defArgs s__law_right) (defBody s__law_right) (defScope s__law_right) .none kV14 dc14 pm14 an14 cd14 ct14), sl14⟩) (c14 : PySem.W.codeIn K cd14 "_law_right" = true) (k14 : PySem.W.keepIn K (.ref f14) = true)
    (a15 : PySem.W.nsIn K mainGlobals "law" = some (some (.ref f15))) (l15 : K.lookup f15 = some ⟨oc15, od15, .func (PySem.W.fnOf "law" "law" (defArgs s_law) (defBody s_law) (defScope s_law) .none kV15 dc15 pm15 an15 cd15 ct15), sl15⟩) (c15 : PySem.W.codeIn K cd15 "law" = true) (k15 : PySem.W.keepIn K (.ref f15) = true)
    (z_ValueError : PySem.W.nsIn K mainGlobals "ValueError" = some none)
    (z_bool : PySem.W.nsIn K mainGlobals "bool" = some none)
    (z_enumerate : PySem.W.nsIn K mainGlobals "enumerate" = some none)
    (z_int : PySem.W.nsIn K mainGlobals "int" = some none)
    (z_isinstance : PySem.W.nsIn K mainGlobals "isinstance" = some none)
    (z_len : PySem.W.nsIn K mainGlobals "len" = some none)
    (z_max : PySem.W.nsIn K mainGlobals "max" = some none)
    (z_range : PySem.W.nsIn K mainGlobals "range" = some none)
    (z_str : PySem.W.nsIn K mainGlobals "str" = some none)
    (z_sum : PySem.W.nsIn K mainGlobals "sum" = some none)
    (z_tuple : PySem.W.nsIn K mainGlobals "tuple" = some none)
    (z_zip : PySem.W.nsIn K mainGlobals "zip" = some none)
    (ka_SET_LENGTHS : PySem.W.nsIn K mainGlobals "SET_LENGTHS" = some (some (.ref kc_SET_LENGTHS))) (kl_SET_LENGTHS : K.lookup kc_SET_LENGTHS = some ⟨.type "tuple", ko_SET_LENGTHS, .seq #[.int 2 kt_SET_LENGTHS0, .int 4 kt_SET_LENGTHS1, .int 8 kt_SET_LENGTHS2, .int 16 kt_SET_LENGTHS3, .int 32 kt_SET_LENGTHS4, .int 64 kt_SET_LENGTHS5] kn_SET_LENGTHS, ks_SET_LENGTHS⟩)
    (xa_FaceError : PySem.W.nsIn K mainGlobals "FaceError" = some (some (.ref xFaceError)))
    (xr_FaceError : PySem.W.readsIn K xFaceError (.type "type") = true)
    (xb_FaceError : PySem.W.specialIn K (.ref xFaceError) "__getattribute__" = some (some (.builtin "type.__getattribute__")))
    (xf_FaceError : PySem.W.findCls K (.ref xFaceError) (.type "type") "__init__" = some (.val (.builtin "ValueError.__init__")))
    (xs_FaceError : PySem.W.subIn K (.ref xFaceError) (.type "BaseException") = some true)
    (xt_FaceError : PySem.W.typeIn K (.ref xFaceError) = some (.type "type"))
    (xl_FaceError : PySem.W.isClsIn K xFaceError = true)
    (xa_NoParting : PySem.W.nsIn K mainGlobals "NoParting" = some (some (.ref xNoParting)))
    (xu_NoParting : PySem.W.findIn K (.ref xNoParting) "__str__" = some (some (.builtin "BaseException.__str__")))
    (xs_NoParting : PySem.W.subIn K (.ref xNoParting) (.type "BaseException") = some true)
    (xt_NoParting : PySem.W.typeIn K (.ref xNoParting) = some (.type "type"))
    (xl_NoParting : PySem.W.isClsIn K xNoParting = true)
    (xk_NoParting : PySem.W.keepIn K (.ref xNoParting) = true)
    (xq_NoParting : PySem.W.excIn K xNoParting [.type "ValueError", .type "Exception", .type "BaseException", .type "object"] "ValueError.__new__" = true)
    (xa_NoAsk : PySem.W.nsIn K mainGlobals "NoAsk" = some (some (.ref xNoAsk)))
    (xu_NoAsk : PySem.W.findIn K (.ref xNoAsk) "__str__" = some (some (.builtin "BaseException.__str__")))
    (xs_NoAsk : PySem.W.subIn K (.ref xNoAsk) (.type "BaseException") = some true)
    (xt_NoAsk : PySem.W.typeIn K (.ref xNoAsk) = some (.type "type"))
    (xl_NoAsk : PySem.W.isClsIn K xNoAsk = true)
    (xk_NoAsk : PySem.W.keepIn K (.ref xNoAsk) = true)
    (xq_NoAsk : PySem.W.excIn K xNoAsk [.type "ValueError", .type "Exception", .type "BaseException", .type "object"] "ValueError.__new__" = true)
    (xa_NoSet : PySem.W.nsIn K mainGlobals "NoSet" = some (some (.ref xNoSet)))
    (xs_NoSet : PySem.W.subIn K (.ref xNoSet) (.type "BaseException") = some true)
    (xt_NoSet : PySem.W.typeIn K (.ref xNoSet) = some (.type "type"))
    (xl_NoSet : PySem.W.isClsIn K xNoSet = true)
    (xk_NoSet : PySem.W.keepIn K (.ref xNoSet) = true)
    (xv_NoSet : K.lookup xNoSet = some (excClassObj znNoSet zqNoSet xNoSet zNNoSet zbNoSet [.ref xFaceError, .type "ValueError", .type "Exception", .type "BaseException", .type "object"] true zlNoSet zsNoSet zaNoSet zcNoSet zdNoSet z0NoSet z1NoSet z2NoSet z3NoSet z5NoSet "ValueError.__new__"))
    (xw_NoSet : PySem.W.findIn K (.ref xNoSet) "__setattr__" = some (some (.builtin "object.__setattr__")))
    (xi_NoSet : PySem.W.findIn K (.ref xNoSet) "__init__" = some (some (.ref yNoSet)))
    (yt_NoSet : PySem.W.typeIn K (.ref yNoSet) = some (.type "function"))
    (yl_NoSet : K.lookup yNoSet = some ⟨yoNoSet, yeNoSet, .func (PySem.W.fnOf "__init__" "NoSet.__init__" (defArgs s_init_NoSet) (defBody s_init_NoSet) (defScope s_init_NoSet) .none ykNoSet ydNoSet ypNoSet yaNoSet ycNoSet ytNoSet), ysNoSet⟩)
    (yc_NoSet : PySem.W.codeIn K ycNoSet "NoSet.__init__" = true)
    (yk_NoSet : PySem.W.keepIn K (.ref yNoSet) = true)
    (xo_NoSet : PySem.W.findIn K (.ref xNoSet) "place" = some none)
    (xd_NoSet : PySem.W.hasDictIn K xNoSet = true)
    (xg_NoSet : PySem.W.findIn K (.ref xNoSet) "__getattribute__" = some (some (.builtin "BaseException.__getattribute__")))
    (xh_NoSet : PySem.W.findIn K (.ref xNoSet) "__getattr__" = some none)
    (xc_NoSet : PySem.W.findIn K (.ref xNoSet) "__class__" = some (some (.builtin "object.__class__")))
    (xm_NoSet : PySem.W.mroIn K xNoSet (.type "object") = some true)
    (xa_NoCorner : PySem.W.nsIn K mainGlobals "NoCorner" = some (some (.ref xNoCorner)))
    (xs_NoCorner : PySem.W.subIn K (.ref xNoCorner) (.type "BaseException") = some true)
    (xt_NoCorner : PySem.W.typeIn K (.ref xNoCorner) = some (.type "type"))
    (xl_NoCorner : PySem.W.isClsIn K xNoCorner = true)
    (xk_NoCorner : PySem.W.keepIn K (.ref xNoCorner) = true)
    (xv_NoCorner : K.lookup xNoCorner = some (excClassObj znNoCorner zqNoCorner xNoCorner zNNoCorner zbNoCorner [.ref xFaceError, .type "ValueError", .type "Exception", .type "BaseException", .type "object"] true zlNoCorner zsNoCorner zaNoCorner zcNoCorner zdNoCorner z0NoCorner z1NoCorner z2NoCorner z3NoCorner z5NoCorner "ValueError.__new__"))
    (xw_NoCorner : PySem.W.findIn K (.ref xNoCorner) "__setattr__" = some (some (.builtin "object.__setattr__")))
    (xi_NoCorner : PySem.W.findIn K (.ref xNoCorner) "__init__" = some (some (.ref yNoCorner)))
    (yt_NoCorner : PySem.W.typeIn K (.ref yNoCorner) = some (.type "function"))
    (yl_NoCorner : K.lookup yNoCorner = some ⟨yoNoCorner, yeNoCorner, .func (PySem.W.fnOf "__init__" "NoCorner.__init__" (defArgs s_init_NoCorner) (defBody s_init_NoCorner) (defScope s_init_NoCorner) .none ykNoCorner ydNoCorner ypNoCorner yaNoCorner ycNoCorner ytNoCorner), ysNoCorner⟩)
    (yc_NoCorner : PySem.W.codeIn K ycNoCorner "NoCorner.__init__" = true)
    (yk_NoCorner : PySem.W.keepIn K (.ref yNoCorner) = true)
    (xo_NoCorner : PySem.W.findIn K (.ref xNoCorner) "corner" = some none)
    (xd_NoCorner : PySem.W.hasDictIn K xNoCorner = true)
    (xg_NoCorner : PySem.W.findIn K (.ref xNoCorner) "__getattribute__" = some (some (.builtin "BaseException.__getattribute__")))
    (xh_NoCorner : PySem.W.findIn K (.ref xNoCorner) "__getattr__" = some none)
    (xc_NoCorner : PySem.W.findIn K (.ref xNoCorner) "__class__" = some (some (.builtin "object.__class__")))
    (xm_NoCorner : PySem.W.mroIn K xNoCorner (.type "object") = some true)
    (xsp : PySem.W.specialIn K (.builtin "object.__class__") "__get__" = some (some (.builtin "getset_descriptor.__get__")))
    (xtk : PySem.W.takesIn K (.builtin "object.__class__") = some true)
    (xn_NoSet_NoAsk : PySem.W.kitOne K (.ref xNoSet) (.ref xNoAsk) = some false)
    (xn_NoCorner_NoAsk : PySem.W.kitOne K (.ref xNoCorner) (.ref xNoAsk) = some false)
    (xn_NoSet_NoCorner : PySem.W.kitOne K (.ref xNoSet) (.ref xNoCorner) = some false)
    (xn_NoCorner_NoCorner : PySem.W.kitOne K (.ref xNoCorner) (.ref xNoCorner) = some true)
    (xn_NoSet_NoParting : PySem.W.kitOne K (.ref xNoSet) (.ref xNoParting) = some false)
    (xn_NoCorner_NoParting : PySem.W.kitOne K (.ref xNoCorner) (.ref xNoParting) = some false)
    (xn_NoSet_NoSet : PySem.W.kitOne K (.ref xNoSet) (.ref xNoSet) = some true)
    (xn_NoCorner_NoSet : PySem.W.kitOne K (.ref xNoCorner) (.ref xNoSet) = some false)
    (xn_NoSet_FaceError : PySem.W.kitOne K (.ref xNoSet) (.ref xFaceError) = some true)
    (xn_NoCorner_FaceError : PySem.W.kitOne K (.ref xNoCorner) (.ref xFaceError) = some true)
    (xn_NoSet_ValueError : PySem.W.kitOne K (.ref xNoSet) (.type "ValueError") = some true)
    (xn_NoCorner_ValueError : PySem.W.kitOne K (.ref xNoCorner) (.type "ValueError") = some true)
    (xe_NoSet_FaceError : PySem.W.subIn K (.ref xNoSet) (.ref xFaceError) = some true)
    (xe_NoCorner_FaceError : PySem.W.subIn K (.ref xNoCorner) (.ref xFaceError) = some true) :
    ∃ fd : FuncData, (∀ (s : Shared) (v : Value), BindsTo s fd ⟨[v], []⟩ [("script", v)]) ∧ ∀ base : Heap, K.In base → base.Ns mainGlobals mg → FnOk l.prog w K mg base CX0 5 fa fd ["script"] (spLaw K) := by
  have e := hfa.symm.trans (PySem.W.mg_of X G0 a15)
  cases e
  have T : Tx K mg (fun i => [f0, f1, f2, f3, f4, f5, f6, f7, f8, f9, f10, f11, f12, f13, f14, fa, yNoSet, yNoCorner, xFaceError, xNoParting, xNoAsk, xNoSet, xNoCorner].getD i 0) (fun i => [PySem.W.fnOf "corners_of" "corners_of" (defArgs s_corners_of) (defBody s_corners_of) (defScope s_corners_of) .none kV0 dc0 pm0 an0 cd0 ct0, PySem.W.fnOf "read_set" "read_set" (defArgs s_read_set) (defBody s_read_set) (defScope s_read_set) .none kV1 dc1 pm1 an1 cd1 ct1, PySem.W.fnOf "_law_mix" "_law_mix" (defArgs s__law_mix) (defBody s__law_mix) (defScope s__law_mix) .none kV2 dc2 pm2 an2 cd2 ct2, PySem.W.fnOf "_law_deck" "_law_deck" (defArgs s__law_deck) (defBody s__law_deck) (defScope s__law_deck) .none kV3 dc3 pm3 an3 cd3 ct3, PySem.W.fnOf "_law_next" "_law_next" (defArgs s__law_next) (defBody s__law_next) (defScope s__law_next) .none kV4 dc4 pm4 an4 cd4 ct4, PySem.W.fnOf "_law_bits" "_law_bits" (defArgs s__law_bits) (defBody s__law_bits) (defScope s__law_bits) .none kV5 dc5 pm5 an5 cd5 ct5, PySem.W.fnOf "_law_face" "_law_face" (defArgs s__law_face) (defBody s__law_face) (defScope s__law_face) .none kV6 dc6 pm6 an6 cd6 ct6, PySem.W.fnOf "_law_all" "_law_all" (defArgs s__law_all) (defBody s__law_all) (defScope s__law_all) .none kV7 dc7 pm7 an7 cd7 ct7, PySem.W.fnOf "_law_lies" "_law_lies" (defArgs s__law_lies) (defBody s__law_lies) (defScope s__law_lies) .none kV8 dc8 pm8 an8 cd8 ct8, PySem.W.fnOf "_law_set" "_law_set" (defArgs s__law_set) (defBody s__law_set) (defScope s__law_set) .none kV9 dc9 pm9 an9 cd9 ct9, PySem.W.fnOf "_law_kind" "_law_kind" (defArgs s__law_kind) (defBody s__law_kind) (defScope s__law_kind) .none kV10 dc10 pm10 an10 cd10 ct10, PySem.W.fnOf "_law_sign" "_law_sign" (defArgs s__law_sign) (defBody s__law_sign) (defScope s__law_sign) .none kV11 dc11 pm11 an11 cd11 ct11, PySem.W.fnOf "_law_spoilt" "_law_spoilt" (defArgs s__law_spoilt) (defBody s__law_spoilt) (defScope s__law_spoilt) .none kV12 dc12 pm12 an12 cd12 ct12, PySem.W.fnOf "_law_due" "_law_due" (defArgs s__law_due) (defBody s__law_due) (defScope s__law_due) .none kV13 dc13 pm13 an13 cd13 ct13, PySem.W.fnOf "_law_right" "_law_right" (defArgs s__law_right) (defBody s__law_right) (defScope s__law_right) .none kV14 dc14 pm14 an14 cd14 ct14, PySem.W.fnOf "law" "law" (defArgs s_law) (defBody s_law) (defScope s_law) .none kV15 dc15 pm15 an15 cd15 ct15, PySem.W.fnOf "__init__" "NoSet.__init__" (defArgs s_init_NoSet) (defBody s_init_NoSet) (defScope s_init_NoSet) .none ykNoSet ydNoSet ypNoSet yaNoSet ycNoSet ytNoSet, PySem.W.fnOf "__init__" "NoCorner.__init__" (defArgs s_init_NoCorner) (defBody s_init_NoCorner) (defScope s_init_NoCorner) .none ykNoCorner ydNoCorner ypNoCorner yaNoCorner ycNoCorner ytNoCorner].getD i (PySem.W.fnOf "law" "law" (defArgs s_law) (defBody s_law) (defScope s_law) .none kV15 dc15 pm15 an15 cd15 ct15)) :=
    ⟨fun_mk l0 c0 k0, PySem.W.mg_of X G0 a0, fun_mk l1 c1 k1, PySem.W.mg_of X G0 a1, fun_mk l2 c2 k2, PySem.W.mg_of X G0 a2, fun_mk l3 c3 k3, PySem.W.mg_of X G0 a3, fun_mk l4 c4 k4, PySem.W.mg_of X G0 a4, fun_mk l5 c5 k5, PySem.W.mg_of X G0 a5, fun_mk l6 c6 k6, PySem.W.mg_of X G0 a6, fun_mk l7 c7 k7, PySem.W.mg_of X G0 a7, fun_mk l8 c8 k8, PySem.W.mg_of X G0 a8, fun_mk l9 c9 k9, PySem.W.mg_of X G0 a9, fun_mk l10 c10 k10, PySem.W.mg_of X G0 a10, fun_mk l11 c11 k11, PySem.W.mg_of X G0 a11, fun_mk l12 c12 k12, PySem.W.mg_of X G0 a12, fun_mk l13 c13 k13, PySem.W.mg_of X G0 a13, fun_mk l14 c14 k14, PySem.W.mg_of X G0 a14, fun_mk l15 c15 k15, PySem.W.mg_of X G0 a15, PySem.W.mg_none_of X G0 z_ValueError, PySem.W.mg_none_of X G0 z_bool, PySem.W.mg_none_of X G0 z_enumerate, PySem.W.mg_none_of X G0 z_int, PySem.W.mg_none_of X G0 z_isinstance, PySem.W.mg_none_of X G0 z_len, PySem.W.mg_none_of X G0 z_max, PySem.W.mg_none_of X G0 z_range, PySem.W.mg_none_of X G0 z_str, PySem.W.mg_none_of X G0 z_sum, PySem.W.mg_none_of X G0 z_tuple, PySem.W.mg_none_of X G0 z_zip, ⟨_, PySem.W.mg_of X G0 ka_SET_LENGTHS, kt_mk kl_SET_LENGTHS (.int (.int (.int (.int (.int (.int .nil)))))) (show 6 ≤ sizeLine by decide)⟩, PySem.W.mg_of X G0 xa_FaceError, ⟨PySem.W.mg_of X G0 xa_FaceError, xr_FaceError, xb_FaceError, xf_FaceError⟩, PySem.W.mg_of X G0 xa_NoParting, xu_NoParting, ⟨PySem.W.mg_of X G0 xa_NoParting, xa_NoParting, xk_NoParting, xs_NoParting, xt_NoParting⟩, xq_NoParting, PySem.W.mg_of X G0 xa_NoAsk, xu_NoAsk, ⟨PySem.W.mg_of X G0 xa_NoAsk, xa_NoAsk, xk_NoAsk, xs_NoAsk, xt_NoAsk⟩, xq_NoAsk, PySem.W.mg_of X G0 xa_NoSet, xa_NoSet, ⟨⟨_, _, _, _, _, _, _, _, _, _, _, _, _, _, _, xv_NoSet, by rfl⟩, xw_NoSet, xs_NoSet, xt_NoSet, xk_NoSet⟩, xi_NoSet, yt_NoSet, fun_mk yl_NoSet yc_NoSet yk_NoSet, xo_NoSet, PySem.W.mg_of X G0 xa_NoCorner, xa_NoCorner, ⟨⟨_, _, _, _, _, _, _, _, _, _, _, _, _, _, _, xv_NoCorner, by rfl⟩, xw_NoCorner, xs_NoCorner, xt_NoCorner, xk_NoCorner⟩, xi_NoCorner, yt_NoCorner, fun_mk yl_NoCorner yc_NoCorner yk_NoCorner, xo_NoCorner, (tblF_cons xa_NoCorner ⟨xg_NoCorner, xh_NoCorner, xs_NoCorner, xd_NoCorner⟩ xo_NoCorner tblF_nil), (tblF_cons xa_NoSet ⟨xg_NoSet, xh_NoSet, xs_NoSet, xd_NoSet⟩ xo_NoSet tblF_nil), (tblI_cons xa_NoSet ⟨xl_NoSet, xg_NoSet, xh_NoSet, xs_NoSet, xc_NoSet, xsp, xtk, xm_NoSet⟩ xn_NoSet_NoAsk (tblI_cons xa_NoCorner ⟨xl_NoCorner, xg_NoCorner, xh_NoCorner, xs_NoCorner, xc_NoCorner, xsp, xtk, xm_NoCorner⟩ xn_NoCorner_NoAsk tblI_nil)), (tblI_cons xa_NoSet ⟨xl_NoSet, xg_NoSet, xh_NoSet, xs_NoSet, xc_NoSet, xsp, xtk, xm_NoSet⟩ xn_NoSet_NoCorner (tblI_cons xa_NoCorner ⟨xl_NoCorner, xg_NoCorner, xh_NoCorner, xs_NoCorner, xc_NoCorner, xsp, xtk, xm_NoCorner⟩ xn_NoCorner_NoCorner tblI_nil)), (tblI_cons xa_NoSet ⟨xl_NoSet, xg_NoSet, xh_NoSet, xs_NoSet, xc_NoSet, xsp, xtk, xm_NoSet⟩ xn_NoSet_NoParting (tblI_cons xa_NoCorner ⟨xl_NoCorner, xg_NoCorner, xh_NoCorner, xs_NoCorner, xc_NoCorner, xsp, xtk, xm_NoCorner⟩ xn_NoCorner_NoParting tblI_nil)), (tblI_cons xa_NoSet ⟨xl_NoSet, xg_NoSet, xh_NoSet, xs_NoSet, xc_NoSet, xsp, xtk, xm_NoSet⟩ xn_NoSet_NoSet (tblI_cons xa_NoCorner ⟨xl_NoCorner, xg_NoCorner, xh_NoCorner, xs_NoCorner, xc_NoCorner, xsp, xtk, xm_NoCorner⟩ xn_NoCorner_NoSet tblI_nil)), (tblI_cons xa_NoSet ⟨xl_NoSet, xg_NoSet, xh_NoSet, xs_NoSet, xc_NoSet, xsp, xtk, xm_NoSet⟩ xn_NoSet_FaceError (tblI_cons xa_NoCorner ⟨xl_NoCorner, xg_NoCorner, xh_NoCorner, xs_NoCorner, xc_NoCorner, xsp, xtk, xm_NoCorner⟩ xn_NoCorner_FaceError tblI_nil)), (tblI_cons xa_NoSet ⟨xl_NoSet, xg_NoSet, xh_NoSet, xs_NoSet, xc_NoSet, xsp, xtk, xm_NoSet⟩ xn_NoSet_ValueError (tblI_cons xa_NoCorner ⟨xl_NoCorner, xg_NoCorner, xh_NoCorner, xs_NoCorner, xc_NoCorner, xsp, xtk, xm_NoCorner⟩ xn_NoCorner_ValueError tblI_nil)), (tblE_cons xa_NoSet (exm_mk xs_FaceError xl_FaceError xt_FaceError xe_NoSet_FaceError) (tblE_cons xa_NoCorner (exm_mk xs_FaceError xl_FaceError xt_FaceError xe_NoCorner_FaceError) tblE_nil))⟩
  exact ⟨_, fun s v => .of_eq rfl, fun base _ _ => (ok_law (P := l.prog) (w := w) (base := base) T).imp fun vs H Q E hq => law_sp hq⟩
end G
open PySem PySem.W PyProof.Rows
set_option maxHeartbeats 0 in
theorem PySem.Challenge.cw_facesparted_k04_texts_of_no_sets_holds : PySem.Challenge.rw_facesparted_k04_texts_of_no_sets.Holds := by
  w_on; o_law; k_head; (case hw => w_witness2)
  k_fill
  refine L2.walk_of (l := PySem.Challenge.rw_facesparted_k04_texts_of_no_sets) (n := 63) (k := 5) (x := "script") (CX := fun _ => L2.CX0) (sp := fun w => G.spLaw _) rfl (by decide) rfl ⟨rfl, by decide, by decide⟩ (fun w h Y => PySem.W.kIn_of Y) ?F (fun _ _ a ns hl _ hS => ⟨a, ns, rfl, hS, hl, fun _ => rfl⟩) (fun _ _ _ _ _ h => h)
  case F =>
    intro w mg fa h KX G0 hmg
    refine' G.all_mk KX G0 hmg ?a0 ?l0 ?c0 ?k0 ?a1 ?l1 ?c1 ?k1 ?a2 ?l2 ?c2 ?k2 ?a3 ?l3 ?c3 ?k3 ?a4 ?l4 ?c4 ?k4 ?a5 ?l5 ?c5 ?k5 ?a6 ?l6 ?c6 ?k6 ?a7 ?l7 ?c7 ?k7 ?a8 ?l8 ?c8 ?k8 ?a9 ?l9 ?c9 ?k9 ?a10 ?l10 ?c10 ?k10 ?a11 ?l11 ?c11 ?k11 ?a12 ?l12 ?c12 ?k12 ?a13 ?l13 ?c13 ?k13 ?a14 ?l14 ?c14 ?k14 ?a15 ?l15 ?c15 ?k15 ?z_ValueError ?z_bool ?z_enumerate ?z_int ?z_isinstance ?z_len ?z_max ?z_range ?z_str ?z_sum ?z_tuple ?z_zip ?ka_SET_LENGTHS ?kl_SET_LENGTHS ?xa_FaceError ?xr_FaceError ?xb_FaceError ?xf_FaceError ?xs_FaceError ?xt_FaceError ?xl_FaceError ?xa_NoParting ?xu_NoParting ?xs_NoParting ?xt_NoParting ?xl_NoParting ?xk_NoParting ?xq_NoParting ?xa_NoAsk ?xu_NoAsk ?xs_NoAsk ?xt_NoAsk ?xl_NoAsk ?xk_NoAsk ?xq_NoAsk ?xa_NoSet ?xs_NoSet ?xt_NoSet ?xl_NoSet ?xk_NoSet ?xv_NoSet ?xw_NoSet ?xi_NoSet ?yt_NoSet ?yl_NoSet ?yc_NoSet ?yk_NoSet ?xo_NoSet ?xd_NoSet ?xg_NoSet ?xh_NoSet ?xc_NoSet ?xm_NoSet ?xa_NoCorner ?xs_NoCorner ?xt_NoCorner ?xl_NoCorner ?xk_NoCorner ?xv_NoCorner ?xw_NoCorner ?xi_NoCorner ?yt_NoCorner ?yl_NoCorner ?yc_NoCorner ?yk_NoCorner ?xo_NoCorner ?xd_NoCorner ?xg_NoCorner ?xh_NoCorner ?xc_NoCorner ?xm_NoCorner ?xsp ?xtk ?xn_NoSet_NoAsk ?xn_NoCorner_NoAsk ?xn_NoSet_NoCorner ?xn_NoCorner_NoCorner ?xn_NoSet_NoParting ?xn_NoCorner_NoParting ?xn_NoSet_NoSet ?xn_NoCorner_NoSet ?xn_NoSet_FaceError ?xn_NoCorner_FaceError ?xn_NoSet_ValueError ?xn_NoCorner_ValueError ?xe_NoSet_FaceError ?xe_NoCorner_FaceError
    (case a0 => k_is); (case l0 => k_is); (case c0 => k_is); (case k0 => k_is); (case a1 => k_is); (case l1 => k_is); (case c1 => k_is); (case k1 => k_is); (case a2 => k_is); (case l2 => k_is); (case c2 => k_is); (case k2 => k_is); (case a3 => k_is); (case l3 => k_is); (case c3 => k_is); (case k3 => k_is); (case a4 => k_is); (case l4 => k_is); (case c4 => k_is); (case k4 => k_is); (case a5 => k_is); (case l5 => k_is); (case c5 => k_is); (case k5 => k_is); (case a6 => k_is); (case l6 => k_is); (case c6 => k_is); (case k6 => k_is); (case a7 => k_is); (case l7 => k_is); (case c7 => k_is); (case k7 => k_is); (case a8 => k_is); (case l8 => k_is); (case c8 => k_is); (case k8 => k_is); (case a9 => k_is); (case l9 => k_is); (case c9 => k_is); (case k9 => k_is); (case a10 => k_is); (case l10 => k_is); (case c10 => k_is); (case k10 => k_is); (case a11 => k_is); (case l11 => k_is); (case c11 => k_is); (case k11 => k_is); (case a12 => k_is); (case l12 => k_is); (case c12 => k_is); (case k12 => k_is); (case a13 => k_is); (case l13 => k_is); (case c13 => k_is); (case k13 => k_is); (case a14 => k_is); (case l14 => k_is); (case c14 => k_is); (case k14 => k_is); (case a15 => k_is); (case l15 => k_is); (case c15 => k_is); (case k15 => k_is); (case z_ValueError => k_is); (case z_bool => k_is); (case z_enumerate => k_is); (case z_int => k_is); (case z_isinstance => k_is); (case z_len => k_is); (case z_max => k_is); (case z_range => k_is); (case z_str => k_is); (case z_sum => k_is); (case z_tuple => k_is); (case z_zip => k_is); (case ka_SET_LENGTHS => k_is); (case kl_SET_LENGTHS => k_is); (case xa_FaceError => k_is); (case xr_FaceError => k_is); (case xb_FaceError => k_is); (case xf_FaceError => k_is); (case xs_FaceError => k_is); (case xt_FaceError => k_is); (case xl_FaceError => k_is); (case xa_NoParting => k_is); (case xu_NoParting => k_is); (case xs_NoParting => k_is); (case xt_NoParting => k_is); (case xl_NoParting => k_is); (case xk_NoParting => k_is); (case xq_NoParting => k_exc); (case xa_NoAsk => k_is); (case xu_NoAsk => k_is); (case xs_NoAsk => k_is); (case xt_NoAsk => k_is); (case xl_NoAsk => k_is); (case xk_NoAsk => k_is); (case xq_NoAsk => k_exc); (case xa_NoSet => k_is); (case xs_NoSet => k_is); (case xt_NoSet => k_is); (case xl_NoSet => k_is); (case xk_NoSet => k_is); (case xv_NoSet => k_is); (case xw_NoSet => k_is); (case xi_NoSet => k_is); (case yt_NoSet => k_is); (case yl_NoSet => k_is); (case yc_NoSet => k_is); (case yk_NoSet => k_is); (case xo_NoSet => k_is); (case xd_NoSet => k_is); (case xg_NoSet => k_is); (case xh_NoSet => k_is); (case xc_NoSet => k_is); (case xm_NoSet => k_is); (case xa_NoCorner => k_is); (case xs_NoCorner => k_is); (case xt_NoCorner => k_is); (case xl_NoCorner => k_is); (case xk_NoCorner => k_is); (case xv_NoCorner => k_is); (case xw_NoCorner => k_is); (case xi_NoCorner => k_is); (case yt_NoCorner => k_is); (case yl_NoCorner => k_is); (case yc_NoCorner => k_is); (case yk_NoCorner => k_is); (case xo_NoCorner => k_is); (case xd_NoCorner => k_is); (case xg_NoCorner => k_is); (case xh_NoCorner => k_is); (case xc_NoCorner => k_is); (case xm_NoCorner => k_is); (case xsp => k_is); (case xtk => k_is); (case xn_NoSet_NoAsk => kit_is); (case xn_NoCorner_NoAsk => kit_is); (case xn_NoSet_NoCorner => kit_is); (case xn_NoCorner_NoCorner => kit_is); (case xn_NoSet_NoParting => kit_is); (case xn_NoCorner_NoParting => kit_is); (case xn_NoSet_NoSet => kit_is); (case xn_NoCorner_NoSet => kit_is); (case xn_NoSet_FaceError => kit_is); (case xn_NoCorner_FaceError => kit_is); (case xn_NoSet_ValueError => kit_is); (case xn_NoCorner_ValueError => kit_is); (case xe_NoSet_FaceError => k_is); (case xe_NoCorner_FaceError => k_is)
