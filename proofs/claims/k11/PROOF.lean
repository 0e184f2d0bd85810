import PyProof.Rows.All
import Wide.All
import OpenK.AllK
import Wide.FinOn
import HandS.ForExc
import HandS.Comp
import HandS.Evl
import HandS.Deep
import HandS.IsInst
import HandS.ExcIs
import HandS.Set
import HandS.Strs
import HandS.SetFor
import HandS.SetBool
import KE.KDictKeyed
import KE.KDictWalk
import KE.KDictLaw
import KE.KDictDisplayH
import HandS.ForDict
import HandS.TupAny
import HandS.Iter
import HandS.TryMany
import HandS.Zip
import HandS.Sort
import HandS.FStr
import HandS.Small
import HandS.Text
import PySem.Challenge.RW_mazeguide_k11_written
set_option Elab.async false
set_option linter.all false
set_option maxRecDepth 100000
set_option maxHeartbeats 1000000
/-! What a piece of a body does to data: an evaluation over a known part of the heap. -/
namespace Pf
open PySem PySem.Spec PyProof.Rows L2

/-! ### heaps -/
theorem newS {H : Hp} {p : Addr} {o : HO} (h : H p = none) : Same H (upd H p o) := fun b x e => by
  rw [upd_ne (ne_of_none e h)]; exact e
theorem sqt {K : PySem.W.Frag} {H H' : Hp} {a : Addr} {xs : List V} (e : Same H H') (h : SqT K H a xs) : SqT K H' a xs := by
  rcases h with (h | ⟨o, h⟩) | h
  · exact .inl (.inl (e _ _ h))
  · exact .inl (.inr ⟨o, e _ _ h⟩)
  · exact .inr h
mutual
theorem dm {K : PySem.W.Frag} {H H' : Hp} (e : Same H H') : ∀ {v : V} {d : PyData}, Dp K H v d → Dp K H' v d
  | _, _, .non => .non
  | _, _, .bl b => .bl b
  | _, _, .int i => .int i
  | _, _, .str x => .str x
  | _, _, .lst a b => .lst (e.seq a) (dms e b)
  | _, _, .tup a b => .tup (sqt e a) (dms e b)
theorem dms {K : PySem.W.Frag} {H H' : Hp} (e : Same H H') : ∀ {vs : List V} {ds : List PyData}, DpAll K H vs ds → DpAll K H' vs ds
  | _, _, .nil => .nil
  | _, _, .cons a b => .cons (dm e a) (dms e b)
end
section
variable {K : PySem.W.Frag} {H : Hp}
theorem dpa_len : ∀ {vs : List V} {ds : List PyData}, DpAll K H vs ds → vs.length = ds.length
  | _, _, .nil => rfl
  | _, _, .cons _ b => congrArg Nat.succ (dpa_len b)
theorem dpa_get : ∀ {vs : List V} {ds : List PyData} {i : Nat} {v : V}, DpAll K H vs ds → vs[i]? = some v → ∃ d, ds[i]? = some d ∧ Dp K H v d
  | _, _, _, _, .nil, e => by simp at e
  | _, _, 0, _, .cons a _, e => by simp at e; subst e; exact ⟨_, rfl, a⟩
  | _, _, i + 1, v, .cons _ b, e => dpa_get (i := i) (v := v) b (by simpa using e)
theorem dpa_at : ∀ {vs : List V} {ds : List PyData} {i : Nat} {d : PyData}, DpAll K H vs ds → ds[i]? = some d → ∃ v, vs[i]? = some v ∧ Dp K H v d
  | _, _, _, _, .nil, e => by simp at e
  | _, _, 0, _, .cons a _, e => by simp at e; subst e; exact ⟨_, rfl, a⟩
  | _, _, i + 1, d, .cons _ b, e => dpa_at (i := i) (d := d) b (by simpa using e)
theorem dpa_app : ∀ {vs ws : List V} {ds es : List PyData}, DpAll K H vs ds → DpAll K H ws es → DpAll K H (vs ++ ws) (ds ++ es)
  | _, _, _, _, .nil, s => s
  | _, _, _, _, .cons a b, s => .cons a (dpa_app b s)
theorem dpa_drop : ∀ {vs : List V} {ds : List PyData} (n : Nat), DpAll K H vs ds → DpAll K H (vs.drop n) (ds.drop n)
  | _, _, 0, r => r
  | _, _, _ + 1, .nil => .nil
  | _, _, n + 1, .cons _ b => dpa_drop n b
theorem dpa_take : ∀ {vs : List V} {ds : List PyData} (n : Nat), DpAll K H vs ds → DpAll K H (vs.take n) (ds.take n)
  | _, _, 0, _ => .nil
  | _, _, _ + 1, .nil => .nil
  | _, _, n + 1, .cons a b => .cons a (dpa_take n b)
theorem dpa_ints : ∀ {ns : List Int} {vs : List V}, DpAll K H vs (ns.map PyData.int) → vs = ns.map V.int
  | [], _, h => by cases h; rfl
  | n :: r, _, h => by
    cases h with
    | cons a b => cases a; rw [dpa_ints b]; rfl
theorem dpa_of_ints : ∀ (ns : List Int), DpAll K H (ns.map V.int) (ns.map PyData.int)
  | [] => .nil
  | n :: r => .cons (.int n) (dpa_of_ints r)
theorem dp_list {a : Addr} {xs : List V} {ds : List PyData} (h : H a = some (.lst xs)) (d : DpAll K H xs ds) : Dp K H (.ref a) (.list ds) := .lst (.inl (.inl h)) d
end

/-- from what is known (H) and what stands (H1), to the same behind a step: W, what may be written -/
structure Fr (W : Addr → Prop) (H H1 G H2 : Hp) : Prop where
  g : Same H G
  r : Same G H2
  s : ∀ p o, ¬ W p → H1 p = some o → H2 p = some o
  n : ∀ p, ¬ W p → H p = none → H1 p ≠ none → G p = none
  m : ∀ p, H2 p = none → H1 p = none
abbrev Fr0 : Hp → Hp → Hp → Hp → Prop := Fr fun _ => False
theorem Fr.refl {W : Addr → Prop} {H H1 : Hp} (e : Same H H1) : Fr W H H1 H H1 := ⟨Same.refl _, e, fun _ _ _ h => h, fun _ _ h _ => h, fun _ h => h⟩
theorem Fr.trans {W W' : Addr → Prop} {H H1 G H2 G' H3 : Hp} (a : Fr W H H1 G H2) (b : Fr W' G H2 G' H3) (w : ∀ p, W' p → W p ∨ H1 p = none) : Fr W H H1 G' H3 := by
  refine ⟨a.g.trans b.g, b.r, fun p o hw h => ?_, fun p hw h1 h2 => ?_, fun p h => a.m p (b.m p h)⟩
  · refine b.s p o (fun z => ?_) (a.s p o hw h)
    rcases w p z with z | z
    · exact hw z
    · rw [z] at h; cases h
  · have g0 := a.n p hw h1 h2
    refine b.n p (fun z => ?_) g0 ?_
    · rcases w p z with z | z
      · exact hw z
      · exact h2 z
    · cases e : H1 p with
      | none => exact absurd e h2
      | some o => rw [a.s p o hw e]; exact fun z => nomatch z
theorem Fr.mono {W W' : Addr → Prop} {H H1 G H2 : Hp} (a : Fr W H H1 G H2) (w : ∀ p, W p → W' p) : Fr W' H H1 G H2 :=
  ⟨a.g, a.r, fun p o h => a.s p o fun z => h (w p z), fun p h => a.n p fun z => h (w p z), a.m⟩
theorem Fr.tr0 {W : Addr → Prop} {H H1 G H2 G' H3 : Hp} (a : Fr W H H1 G H2) (b : Fr0 G H2 G' H3) : Fr W H H1 G' H3 := a.trans b fun _ z => z.elim
theorem Fr.a {H H1 G H2 : Hp} (f : Fr0 H H1 G H2) : Same H1 H2 := fun p o h => f.s p o (fun z => z) h
theorem upd_none {H : Hp} {p b : Addr} {o : HO} (h : upd H p o b = none) : H b = none := by
  by_cases c : b = p
  · subst c; rw [upd_same] at h; cases h
  · rw [upd_ne c] at h; exact h
/-- a new object, known from now on -/
theorem Fr.new {W : Addr → Prop} {H H1 : Hp} {p : Addr} {o : HO} (e : Same H H1) (hp : H1 p = none) : Fr W H H1 (upd H p o) (upd H1 p o) := by
  have hH : H p = none := e.free hp
  refine ⟨newS hH, fun b x h => ?_, fun b x _ h => newS hp b x h, fun b _ h1 h2 => ?_, fun b h => upd_none h⟩
  · by_cases c : b = p
    · subst c; rw [upd_same] at h ⊢; exact h
    · rw [upd_ne c] at h ⊢; exact e b x h
  · have c : b ≠ p := fun z => h2 (by rw [z]; exact hp)
    rw [upd_ne c]; exact h1
/-- a new object, not known -/
theorem Fr.hid {W : Addr → Prop} {H H1 : Hp} {p : Addr} {o : HO} (e : Same H H1) (hp : H1 p = none) : Fr W H H1 H (upd H1 p o) :=
  ⟨Same.refl _, fun b x h => newS hp b x (e b x h), fun b x _ h => newS hp b x h, fun b _ h1 _ => h1, fun b h => upd_none h⟩

/-- the tuple at a is the key k -/
def KeyIn (K : PySem.W.Frag) (H : Hp) (a : Addr) (k : NestedKey) : Prop := Dp K H (.ref a) k.data ∧ k.depth ≤ 8
theorem KeyIn.mono {K : PySem.W.Frag} {H H' : Hp} {a : Addr} {k : NestedKey} (e : Same H H') (h : KeyIn K H a k) : KeyIn K H' a k := ⟨dm e h.1, h.2⟩
abbrev Ent := NestedKey × Addr × Value
/-- what the dict at D is -/
def DX (P : Program) (w : World) (D : Addr) (xs : List Ent) : Heap → Prop := fun h => (D == sysModules) = false ∧ ∃ o es ep, h.get? D = some o ∧ o.ExactDict ∧ o.data = .dict es ep ∧ es.toList = xs.map (entryOfKey (nestedKind P w)) ∧ (xs.map (·.1)).Nodup
/-- a dict, at D, free to change or held as it is -/
def DAt (P : Program) (w : World) (H : Hp) (D : Addr) (xs : List Ent) : Prop := H D = some (.ext (DX P w D xs)) ∨ ∃ o, H D = some (.frz o (.ext (DX P w D xs)))
/-- the entries as data -/
inductive KvOk (K : PySem.W.Frag) (H : Hp) : List Ent → List (NestedKey × PyData) → Prop where
  | nil : KvOk K H [] []
  | cons {k : NestedKey} {a : Addr} {u : Value} {v : V} {d : PyData} {xs : List Ent} {kvs : List (NestedKey × PyData)} : KeyIn K H a k → L2.RelV v u → Dp K H v d → KvOk K H xs kvs → KvOk K H ((k, a, u) :: xs) ((k, d) :: kvs)
theorem KvOk.mono {K : PySem.W.Frag} {H H' : Hp} (e : Same H H') : ∀ {xs : List Ent} {kvs : List (NestedKey × PyData)}, KvOk K H xs kvs → KvOk K H' xs kvs
  | _, _, .nil => .nil
  | _, _, .cons a b c d => .cons (a.mono e) b (dm e c) (d.mono e)
/-! ### slots -/
inductive SV where
  /-- nothing is known -/
  | no
  /-- data that stays -/
  | dat (d : PyData)
  /-- a list of one's own, that may change -/
  | own (xs : List PyData)
  /-- an object of one's own -/
  | obj (o : HO)
  /-- this value -/
  | raw (v : V)
  /-- this value, as data -/
  | rd (v : V) (d : PyData)
  /-- a tuple of these values -/
  | tupv (vs : List V)
  /-- a dict of one's own; one that is held as it is -/
  | dct (P : Program) (w : World) (kvs : List (NestedKey × PyData))
  | dcf (P : Program) (w : World) (kvs : List (NestedKey × PyData))
  /-- a tuple of a whole number and two lists that stay as they are -/
  | kep (n : Int) (xs ys : List PyData)
  /-- a list of one's own, there -/
  | ownA (l : Addr) (xs : List PyData)
def OkS (K : PySem.W.Frag) (H H1 : Hp) (ov : Option V) : SV → Prop
  | .no => True
  | .dat d => ∃ v, ov = some v ∧ Dp K H v d
  | .own xs => ∃ l vs, ov = some (.ref l) ∧ H l = none ∧ H1 l = some (.lst vs) ∧ DpAll K H vs xs
  | .obj o => ∃ l, ov = some (.ref l) ∧ H l = none ∧ H1 l = some o
  | .raw v => ov = some v
  | .rd v d => ov = some v ∧ Dp K H v d
  | .tupv vs => ∃ t, ov = some (.ref t) ∧ SqT K H t vs
  | .dct P w kvs => ∃ l xs, ov = some (.ref l) ∧ H l = none ∧ H1 l = some (.ext (DX P w l xs)) ∧ KvOk K H xs kvs
  | .dcf P w kvs => ∃ l o xs, ov = some (.ref l) ∧ H l = some (.frz o (.ext (DX P w l xs))) ∧ KvOk K H xs kvs
  | .kep n xs ys => ∃ t a b vs ws, ov = some (.ref t) ∧ SqT K H t [.int n, .ref a, .ref b] ∧ H a = some (.lst vs) ∧ DpAll K H vs xs ∧ H b = some (.lst ws) ∧ DpAll K H ws ys
  | .ownA l xs => ov = some (.ref l) ∧ ∃ vs, H l = none ∧ H1 l = some (.lst vs) ∧ DpAll K H vs xs
def SV.isOwn : SV → Bool
  | .own _ => true
  | .obj _ => true
  | .ownA _ _ => true
  | .dct _ _ _ => true
  | _ => false
/-- what the slots own -/
def Ow (σ : L2.St) (env : List SV) : Addr → Prop := fun l => ∃ (i : Nat) (s : SV), env[i]? = some s ∧ s.isOwn = true ∧ σ[i]? = some (some (.ref l))
structure Stt (K : PySem.W.Frag) (H H1 : Hp) (σ : L2.St) (env : List SV) : Prop where
  e : Same H H1
  l : σ.length = env.length
  ok : ∀ (i : Nat) (o : Option V) (s : SV), σ[i]? = some o → env[i]? = some s → OkS K H H1 o s
  ne : ∀ (i j : Nat) (s t : SV) (l : Addr), i ≠ j → env[i]? = some s → env[j]? = some t → s.isOwn = true → t.isOwn = true → σ[i]? = some (some (.ref l)) → σ[j]? ≠ some (some (.ref l))
section
variable {K : PySem.W.Frag} {H H1 G H2 : Hp} {σ : L2.St} {env : List SV}
theorem OkS.mono {o : Option V} {s : SV} (h : OkS K H H1 o s) (f : Fr0 H H1 G H2) : OkS K G H2 o s := by
  cases s with
  | no => trivial
  | dat d => obtain ⟨v, a, b⟩ := h; exact ⟨v, a, dm f.g b⟩
  | own xs =>
    obtain ⟨l, vs, a, b, c, d⟩ := h
    exact ⟨l, vs, a, f.n l (fun z => z) b (by rw [c]; exact fun z => nomatch z), f.a _ _ c, dms f.g d⟩
  | obj x =>
    obtain ⟨l, a, b, c⟩ := h
    exact ⟨l, a, f.n l (fun z => z) b (by rw [c]; exact fun z => nomatch z), f.a _ _ c⟩
  | raw v => exact h
  | dct P w kvs =>
    obtain ⟨l, xs, a, b, c, d⟩ := h
    exact ⟨l, xs, a, f.n l (fun z => z) b (by rw [c]; exact fun z => nomatch z), f.a _ _ c, d.mono f.g⟩
  | dcf P w kvs => obtain ⟨l, o, xs, a, b, c⟩ := h; exact ⟨l, o, xs, a, f.g _ _ b, c.mono f.g⟩
  | kep n xs ys => obtain ⟨t, a, b, vs, ws, e0, e1, e2, e3, e4, e5⟩ := h; exact ⟨t, a, b, vs, ws, e0, sqt f.g e1, f.g _ _ e2, dms f.g e3, f.g _ _ e4, dms f.g e5⟩
  | rd v d => exact ⟨h.1, dm f.g h.2⟩
  | tupv vs => obtain ⟨t, a, b⟩ := h; exact ⟨t, a, sqt f.g b⟩
  | ownA l xs =>
    obtain ⟨a, vs, b, c, d⟩ := h
    exact ⟨a, vs, f.n l (fun z => z) b (by rw [c]; exact fun z => nomatch z), f.a _ _ c, dms f.g d⟩
theorem Stt.mono (h : Stt K H H1 σ env) (f : Fr0 H H1 G H2) : Stt K G H2 σ env :=
  ⟨f.r, h.l, fun i o s a b => (h.ok i o s a b).mono f, h.ne⟩
theorem Stt.get (h : Stt K H H1 σ env) {i : Nat} {s : SV} (e : env[i]? = some s) : ∃ o, σ[i]? = some o ∧ OkS K H H1 o s := by
  have hi : i < env.length := (List.getElem?_eq_some_iff.mp e).1
  rw [← h.l] at hi
  exact ⟨σ[i], List.getElem?_eq_getElem hi, h.ok i _ s (List.getElem?_eq_getElem hi) e⟩
theorem Stt.dat (h : Stt K H H1 σ env) {i : Nat} {d : PyData} (e : env[i]? = some (.dat d)) : ∃ v, σ[i]? = some (some v) ∧ Dp K H v d := by
  obtain ⟨o, a, v, rfl, b⟩ := h.get e
  exact ⟨v, a, b⟩
theorem Stt.own (h : Stt K H H1 σ env) {i : Nat} {xs : List PyData} (e : env[i]? = some (.own xs)) : ∃ l vs, σ[i]? = some (some (.ref l)) ∧ H l = none ∧ H1 l = some (.lst vs) ∧ DpAll K H vs xs := by
  obtain ⟨o, a, l, vs, rfl, b⟩ := h.get e
  exact ⟨l, vs, a, b⟩
/-- a slot takes data -/
theorem Stt.setD (h : Stt K H H1 σ env) {i : Nat} {v : V} {d : PyData} (hd : Dp K H v d) : Stt K H H1 (σ.set i (some v)) (env.set i (.dat d)) := by
  refine ⟨h.e, by rw [List.length_set, List.length_set]; exact h.l, fun j o s a b => ?_, fun j k s t l hjk b1 b2 o1 o2 a1 => ?_⟩
  · by_cases c : i = j
    · subst c
      have hi : i < σ.length := by have := (List.getElem?_eq_some_iff.mp a).1; rwa [List.length_set] at this
      have hi' : i < env.length := by rw [← h.l]; exact hi
      rw [List.getElem?_set_self hi] at a
      rw [List.getElem?_set_self hi'] at b
      cases a; cases b
      exact ⟨v, rfl, hd⟩
    · rw [List.getElem?_set_ne c] at a b
      exact h.ok j o s a b
  · have c1 : i ≠ j := fun c => by
      subst c
      have hi' : i < env.length := by have := (List.getElem?_eq_some_iff.mp b1).1; rwa [List.length_set] at this
      rw [List.getElem?_set_self hi'] at b1
      cases b1; cases o1
    have c2 : i ≠ k := fun c => by
      subst c
      have hi' : i < env.length := by have := (List.getElem?_eq_some_iff.mp b2).1; rwa [List.length_set] at this
      rw [List.getElem?_set_self hi'] at b2
      cases b2; cases o2
    rw [List.getElem?_set_ne c1] at a1 b1
    rw [List.getElem?_set_ne c2] at b2 ⊢
    exact h.ne j k s t l hjk b1 b2 o1 o2 a1
/-- an object that no slot owns and that is not known is given to a slot -/
theorem Stt.setO (h : Stt K H H1 σ env) {i : Nat} {p : Addr} {s₀ : SV} (ho : OkS K H H1 (some (.ref p)) s₀) (hw : ∀ (j : Nat) s, env[j]? = some s → s.isOwn = true → j ≠ i → σ[j]? ≠ some (some (.ref p))) : Stt K H H1 (σ.set i (some (.ref p))) (env.set i s₀) := by
  refine ⟨h.e, by rw [List.length_set, List.length_set]; exact h.l, fun j o s a b => ?_, fun j k s t l hjk b1 b2 o1 o2 a1 => ?_⟩
  · by_cases c : i = j
    · subst c
      have hi : i < σ.length := by have := (List.getElem?_eq_some_iff.mp a).1; rwa [List.length_set] at this
      have hi' : i < env.length := by rw [← h.l]; exact hi
      rw [List.getElem?_set_self hi] at a
      rw [List.getElem?_set_self hi'] at b
      cases a; cases b
      exact ho
    · rw [List.getElem?_set_ne c] at a b
      exact h.ok j o s a b
  · by_cases c1 : i = j
    · subst c1
      have hi : i < σ.length := by have := (List.getElem?_eq_some_iff.mp a1).1; rwa [List.length_set] at this
      rw [List.getElem?_set_self hi] at a1
      cases a1
      rw [List.getElem?_set_ne hjk] at b2 ⊢
      exact hw k t b2 o2 (Ne.symm hjk)
    · rw [List.getElem?_set_ne c1] at a1 b1
      by_cases c2 : i = k
      · subst c2
        intro z
        have hi : i < σ.length := by have := (List.getElem?_eq_some_iff.mp z).1; rwa [List.length_set] at this
        rw [List.getElem?_set_self hi] at z
        cases z
        exact hw j s b1 o1 hjk a1
      · rw [List.getElem?_set_ne c2] at b2 ⊢
        exact h.ne j k s t l hjk b1 b2 o1 o2 a1
theorem Stt.owned (h : Stt K H H1 σ env) {l : Addr} (w : Ow σ env l) : H l = none ∧ H1 l ≠ none := by
  obtain ⟨i, s, a, b, c⟩ := w
  have ok := h.ok i _ s c a
  cases s with
  | no => cases b
  | dat d => cases b
  | own xs => obtain ⟨l', vs, e, h1, h2, _⟩ := ok; cases e; exact ⟨h1, by rw [h2]; exact fun z => nomatch z⟩
  | obj o => obtain ⟨l', e, h1, h2⟩ := ok; cases e; exact ⟨h1, by rw [h2]; exact fun z => nomatch z⟩
  | raw v => cases b
  | dct P w kvs => obtain ⟨l', xs, e, h1, h2, _⟩ := ok; cases e; exact ⟨h1, by rw [h2]; exact fun z => nomatch z⟩
  | dcf P w kvs => cases b
  | kep n xs ys => cases b
  | rd v d => cases b
  | tupv vs => cases b
  | ownA l' xs => obtain ⟨e, vs, h1, h2, _⟩ := ok; cases e; exact ⟨h1, by rw [h2]; exact fun z => nomatch z⟩
/-- a new object is given to a slot -/
theorem Stt.setN (h : Stt K H H1 σ env) {i : Nat} {p : Addr} {xs : List PyData} {vs : List V} (f : Fr0 H H1 G H2) (hp : H1 p = none) (hg : G p = none) (h2 : H2 p = some (.lst vs)) (hd : DpAll K G vs xs) :
    Stt K G H2 (σ.set i (some (.ref p))) (env.set i (.own xs)) :=
  (h.mono f).setO ⟨p, vs, rfl, hg, h2, hd⟩ fun j s a b _ z => (h.owned ⟨j, s, a, b, z⟩).2 hp
theorem Ow.set {i : Nat} {s₀ : SV} {v : Option V} {l : Addr} (w : Ow (σ.set i v) (env.set i s₀) l) : Ow σ env l ∨ (s₀.isOwn = true ∧ v = some (.ref l)) := by
  obtain ⟨j, s, a, b, c⟩ := w
  by_cases e : i = j
  · subst e
    have hi : i < σ.length := by have := (List.getElem?_eq_some_iff.mp c).1; rwa [List.length_set] at this
    have hi' : i < env.length := by have := (List.getElem?_eq_some_iff.mp a).1; rwa [List.length_set] at this
    rw [List.getElem?_set_self hi] at c
    rw [List.getElem?_set_self hi'] at a
    cases a; cases c
    exact .inr ⟨b, rfl⟩
  · rw [List.getElem?_set_ne e] at a c
    exact .inl ⟨j, s, a, b, c⟩
end
end Pf

namespace Pf
open PySem PySem.Spec PyProof.Rows L2

/-! ### expressions -/
/-- te gives the data d -/
def Ev (K : PySem.W.Frag) (te : TE) (env : List SV) (d : PyData) : Prop := ∀ σ H H1, Stt K H H1 σ env → ∀ Q : VK, (∀ v G H2, Fr0 H H1 G H2 → Dp K G v d → Q v H2) → te σ H1 Q
/-- te gives a new list -/
def EvO (K : PySem.W.Frag) (te : TE) (env : List SV) (xs : List PyData) : Prop := ∀ σ H H1, Stt K H H1 σ env → ∀ Q : VK, (∀ p vs G H2, Fr0 H H1 G H2 → H1 p = none → G p = none → H2 p = some (.lst vs) → DpAll K G vs xs → Q (.ref p) H2) → te σ H1 Q
/-- te gives a list that stands (new, or one's own) -/
def EvL (K : PySem.W.Frag) (te : TE) (env : List SV) (xs : List PyData) : Prop := ∀ σ H H1, Stt K H H1 σ env → ∀ Q : VK, (∀ p vs G H2, Fr0 H H1 G H2 → H2 p = some (.lst vs) → DpAll K G vs xs → Q (.ref p) H2) → te σ H1 Q
def EvT (K : PySem.W.Frag) (tt : TT) (env : List SV) (b : Bool) : Prop := ∀ σ H H1, Stt K H H1 σ env → ∀ Q : Bool → Hp → Prop, (∀ G H2, Fr0 H H1 G H2 → Q b H2) → tt σ H1 Q
def EvA (K : PySem.W.Frag) (ta : TA) (env : List SV) (ds : List PyData) : Prop := ∀ σ H H1, Stt K H H1 σ env → ∀ Q : List V → Hp → Prop, (∀ vs G H2, Fr0 H H1 G H2 → DpAll K G vs ds → Q vs H2) → ta σ H1 Q
def EvP (K : PySem.W.Frag) (to : TO) (env : List SV) (o : Option Int) : Prop := ∀ σ H H1, Stt K H H1 σ env → ∀ Q : Option Int → Hp → Prop, (∀ G H2, Fr0 H H1 G H2 → Q o H2) → to σ H1 Q
/-- flat data as a value -/
def fv : PyData → Option V
  | .none => some .non
  | .bool b => some (.bl b)
  | .int i => some (.int i)
  | .str x => some (.str x)
  | _ => none
def vd : V → Option PyData
  | .non => some .none
  | .bl b => some (.bool b)
  | .int i => some (.int i)
  | .str x => some (.str x)
  | _ => none
section
variable {K : PySem.W.Frag} {env : List SV} {ta tb tc te : TE} {t u : TT} {d e : PyData} {i j : Int} {H H1 G H2 : Hp} {xs ys ds : List PyData}
theorem dp_fv {d : PyData} {v w : V} (h : fv d = some w) (k : Dp K H v d) : v = w := by
  cases k <;> first
    | exact Option.some.inj h
    | cases h
theorem vd_dp {v : V} {d : PyData} (h : vd v = some d) : Dp K H v d := by
  cases v <;> first
    | (cases h; exact Dp.non)
    | (cases h; exact Dp.bl _)
    | (cases h; exact Dp.int _)
    | (cases h; exact Dp.str _)
    | cases h
theorem Ev.is (h : Ev K te env d) (q : d = e) : Ev K te env e := q ▸ h
theorem EvT.is {b c : Bool} (h : EvT K t env b) (q : b = c) : EvT K t env c := q ▸ h
theorem EvO.is (h : EvO K te env xs) (q : xs = ys) : EvO K te env ys := q ▸ h
theorem ev_var {i : Nat} (h : env[i]? = some (.dat d)) : Ev K (tVar i) env d := fun σ H H1 st Q q => by
  obtain ⟨v, a, b⟩ := st.dat h
  exact ⟨v, a, q v H H1 (Fr.refl st.e) b⟩
theorem ev_c {v : V} (h : vd v = some d) : Ev K (tC v) env d := fun σ H H1 st Q q => q v H H1 (Fr.refl st.e) (vd_dp h)
theorem ev_op {r : R2} (ha : Ev K ta env d) (hb : Ev K tb env e) {f : PyData} (hr : ∀ x y H H1 (Q : VK), Same H H1 → Dp K H x d → Dp K H y e → (∀ v G H2, Fr0 H H1 G H2 → Dp K G v f → Q v H2) → r x y H1 Q) : Ev K (tOp r ta tb) env f := fun σ H H1 st Q q =>
  ha σ H H1 st _ fun x G1 H2 f1 d1 => hb σ G1 H2 (st.mono f1) _ fun y G2 H3 f2 d2 => hr x y G2 H3 _ f2.r (dm f2.g d1) d2 fun v G3 H4 f3 d3 => q v G3 H4 ((f1.tr0 f2).tr0 f3) d3
theorem ev_un {r : V → Hp → VK → Prop} (ha : Ev K ta env d) {f : PyData} (hr : ∀ x H H1 (Q : VK), Same H H1 → Dp K H x d → (∀ v G H2, Fr0 H H1 G H2 → Dp K G v f → Q v H2) → r x H1 Q) : Ev K (tUn r ta) env f := fun σ H H1 st Q q =>
  ha σ H H1 st _ fun x G1 H2 f1 d1 => hr x G1 H2 _ f1.r d1 fun v G3 H4 f3 d3 => q v G3 H4 (f1.tr0 f3) d3
theorem ev_I0 {g : Int → Int → V} (ha : Ev K ta env (.int i)) (hb : Ev K tb env (.int j)) (hd : vd (g i j) = some d) : Ev K (tOp (rI0 g) ta tb) env d :=
  ev_op ha hb fun x y H H1 Q s d1 d2 q => by
    cases d1; cases d2
    exact ⟨i, j, rfl, rfl, q _ H H1 (Fr.refl s) (vd_dp hd)⟩
theorem ev_I {C : Int → Int → Prop} {g : Int → Int → V} (ha : Ev K ta env (.int i)) (hb : Ev K tb env (.int j)) (hc : C i j) (hd : vd (g i j) = some d) : Ev K (tOp (rI C g) ta tb) env d :=
  ev_op ha hb fun x y H H1 Q s d1 d2 q => by
    cases d1; cases d2
    exact ⟨i, j, rfl, rfl, hc, q _ H H1 (Fr.refl s) (vd_dp hd)⟩
theorem ev_U {g : Int → V} (ha : Ev K ta env (.int i)) (hd : vd (g i) = some d) : Ev K (tUn (rU g) ta) env d :=
  ev_un ha fun x H H1 Q s d1 q => by
    cases d1
    exact ⟨i, rfl, q _ H H1 (Fr.refl s) (vd_dp hd)⟩
theorem ev_eq {v w : V} (ha : Ev K ta env d) (hb : Ev K tb env e) (hv : fv d = some v) (hw : fv e = some w) (hs : scal v w = true) : Ev K (tOp rEq ta tb) env (.bool (decide (v = w))) :=
  ev_op ha hb fun x y H H1 Q s d1 d2 q => by
    cases dp_fv hv d1; cases dp_fv hw d2
    exact ⟨hs, q _ H H1 (Fr.refl s) (.bl _)⟩
theorem ev_ne {v w : V} (ha : Ev K ta env d) (hb : Ev K tb env e) (hv : fv d = some v) (hw : fv e = some w) (hs : scal v w = true) : Ev K (tOp rNe ta tb) env (.bool (!decide (v = w))) :=
  ev_op ha hb fun x y H H1 Q s d1 d2 q => by
    cases dp_fv hv d1; cases dp_fv hw d2
    exact ⟨hs, q _ H H1 (Fr.refl s) (.bl _)⟩
theorem dec_i (i j : Int) : decide (V.int i = V.int j) = decide (i = j) := by
  by_cases h : i = j
  · subst h; simp
  · rw [decide_eq_false h, decide_eq_false fun z => h (V.int.inj z)]
theorem dec_s (i j : Str) : decide (V.str i = V.str j) = decide (i = j) := by
  by_cases h : i = j
  · subst h; simp
  · rw [decide_eq_false h, decide_eq_false fun z => h (V.str.inj z)]
theorem dec_b (i j : Bool) : decide (V.bl i = V.bl j) = decide (i = j) := by
  by_cases h : i = j
  · subst h; simp
  · rw [decide_eq_false h, decide_eq_false fun z => h (V.bl.inj z)]
theorem ev_eqI (ha : Ev K ta env (.int i)) (hb : Ev K tb env (.int j)) : Ev K (tOp rEq ta tb) env (.bool (decide (i = j))) := (ev_eq ha hb rfl rfl rfl).is (by rw [dec_i])
theorem ev_neI (ha : Ev K ta env (.int i)) (hb : Ev K tb env (.int j)) : Ev K (tOp rNe ta tb) env (.bool (!decide (i = j))) := (ev_ne ha hb rfl rfl rfl).is (by rw [dec_i])
theorem ev_eqS {i j : Str} (ha : Ev K ta env (.str i)) (hb : Ev K tb env (.str j)) : Ev K (tOp rEq ta tb) env (.bool (decide (i = j))) := (ev_eq ha hb rfl rfl rfl).is (by rw [dec_s])
theorem ev_neS {i j : Str} (ha : Ev K ta env (.str i)) (hb : Ev K tb env (.str j)) : Ev K (tOp rNe ta tb) env (.bool (!decide (i = j))) := (ev_ne ha hb rfl rfl rfl).is (by rw [dec_s])
theorem ev_neB {i j : Bool} (ha : Ev K ta env (.bool i)) (hb : Ev K tb env (.bool j)) : Ev K (tOp rNe ta tb) env (.bool (!decide (i = j))) := (ev_ne ha hb rfl rfl rfl).is (by rw [dec_b])
/-- == of data -/
theorem ev_eqD (ha : Ev K ta env d) (hb : Ev K tb env e) (h1 : SeqAt.shaped d = true) (h2 : SeqAt.shaped e = true) : Ev K (tOp (rEqD K) ta tb) env (.bool (PyData.eqv d e)) :=
  ev_op ha hb fun x y H H1 Q s d1 d2 q => ⟨d, e, dm s d1, dm s d2, h1, h2, q _ H H1 (Fr.refl s) (.bl _)⟩
theorem ev_neD (ha : Ev K ta env d) (hb : Ev K tb env e) (h1 : SeqAt.shaped d = true) (h2 : SeqAt.shaped e = true) : Ev K (tOp (rNeD K) ta tb) env (.bool (!PyData.eqv d e)) :=
  ev_op ha hb fun x y H H1 Q s d1 d2 q => ⟨d, e, dm s d1, dm s d2, h1, h2, q _ H H1 (Fr.refl s) (.bl _)⟩
/-- x is None -/
def isN : PyData → Bool
  | .none => true
  | _ => false
theorem dp_isN {v : V} (h : Dp K H v d) : decide (v = .non) = isN d := by cases h <;> rfl
theorem ev_isN (ha : Ev K ta env d) : Ev K (tOp (fun x y H Q => y = .non ∧ Q (.bl (decide (x = .non))) H) ta (tC .non)) env (.bool (isN d)) :=
  ev_op ha (ev_c rfl) fun x y H H1 Q s d1 d2 q => by
    cases d2
    refine ⟨rfl, ?_⟩
    rw [dp_isN d1]
    exact q _ H H1 (Fr.refl s) (.bl _)
theorem ev_notN (ha : Ev K ta env d) : Ev K (tOp (fun x y H Q => y = .non ∧ Q (.bl (!decide (x = .non))) H) ta (tC .non)) env (.bool (!isN d)) :=
  ev_op ha (ev_c rfl) fun x y H H1 Q s d1 d2 q => by
    cases d2
    refine ⟨rfl, ?_⟩
    rw [dp_isN d1]
    exact q _ H H1 (Fr.refl s) (.bl _)
/-! a list's, a tuple's item -/
theorem ixN_lt {n : Nat} {i : Int} {j : Nat} (h : ixN n i = some j) : j < n := by
  unfold ixN at h
  split at h
  · split at h
    · cases h; omega
    · cases h
  · split at h
    · cases h; omega
    · cases h
theorem dpa_atI {vs : List V} (h : DpAll K H vs ds) (e : atI ds i = some d) : ∃ v, atI vs i = some v ∧ Dp K H v d := by
  unfold atI at e ⊢
  rw [dpa_len h]
  cases c : ixN ds.length i with
  | none => rw [c] at e; cases e
  | some j => rw [c] at e; exact dpa_at h e
theorem ev_ixL (ha : Ev K ta env (.list ds)) (hb : Ev K tb env (.int i)) (h : atI ds i = some d) : Ev K (tOp (rIxL K) ta tb) env d :=
  ev_op ha hb fun x y H H1 Q s d1 d2 q => by
    cases d2
    cases d1 with
    | lst hl ha =>
      obtain ⟨v, e1, e2⟩ := dpa_atI ha h
      exact ⟨_, _, i, v, rfl, rfl, s.seq hl, e1, q _ H H1 (Fr.refl s) e2⟩
theorem ev_ixT (ha : Ev K ta env (.tuple ds)) (hb : Ev K tb env (.int i)) (h : atI ds i = some d) : Ev K (tOp (rIxT K) ta tb) env d :=
  ev_op ha hb fun x y H H1 Q s d1 d2 q => by
    cases d2
    cases d1 with
    | tup hl ha =>
      obtain ⟨v, e1, e2⟩ := dpa_atI ha h
      exact ⟨_, _, i, v, rfl, rfl, sqt s hl, e1, q _ H H1 (Fr.refl s) e2⟩
/-- an item of a list that stands, flat -/
theorem ev_ixO (ha : EvL K ta env ds) (hb : Ev K tb env (.int i)) (h : atI ds i = some d) (he : ∀ σ H H1, Stt K H H1 σ env → True) : Ev K (tOp (rIxL K) ta tb) env d := fun σ H H1 st Q q =>
  ha σ H H1 st _ fun p vs G H2 f h2 dv => hb σ G H2 (st.mono f) _ fun y G3 H3 f3 dy => by
    cases dy
    obtain ⟨v, e1, e2⟩ := dpa_atI dv h
    exact ⟨_, _, i, v, rfl, rfl, .inl (.inl (f3.a _ _ h2)), e1, q _ G3 H3 (f.tr0 f3) (dm f3.g e2)⟩
theorem ea_nil : EvA K tNil env [] := fun σ H H1 st Q q => q [] H H1 (Fr.refl st.e) .nil
theorem ea_cons {tr : TA} (ha : Ev K ta env d) (hr : EvA K tr env ds) : EvA K (tCons ta tr) env (d :: ds) := fun σ H H1 st Q q =>
  ha σ H H1 st _ fun v G H2 f d1 => hr σ G H2 (st.mono f) _ fun vs G3 H3 f3 d3 => q (v :: vs) G3 H3 (f.tr0 f3) (.cons (dm f3.g d1) d3)
theorem sz_ok {n : Nat} (h : n ≤ 100000) : n ≤ sizeLine := Nat.le_trans h (by decide)
theorem sz_lt {m : Nat} (h : m < 100000) : m < sizeLine := Nat.lt_of_lt_of_le h (by decide)
theorem ev_tup {t : TA} (h : EvA K t env ds) (hl : ds.length ≤ 100000) : Ev K (tTup t) env (.tuple ds) := fun σ H H1 st Q q =>
  h σ H H1 st _ fun vs G H2 f dv => ⟨by rw [dpa_len dv]; exact sz_ok hl, fun p hp => by
    have n : Fr0 G H2 (upd G p (.tup vs)) (upd H2 p (.tup vs)) := Fr.new f.r hp
    exact q _ _ _ (f.tr0 n) (.tup (.inl (.inl upd_same)) (dms n.g dv))⟩
theorem eo_lst {t : TA} (h : EvA K t env ds) (hl : ds.length ≤ 100000) : EvO K (tLst t) env ds := fun σ H H1 st Q q =>
  h σ H H1 st _ fun vs G H2 f dv => ⟨by rw [dpa_len dv]; exact sz_ok hl, fun p hp => by
    have n : Fr0 G H2 G (upd H2 p (.lst vs)) := Fr.hid f.r hp
    exact q p vs _ _ (f.tr0 n) (f.a.free hp) (f.r.free hp) upd_same dv⟩
/-- a new list, from now on known -/
theorem EvO.ev (h : EvO K te env xs) : Ev K te env (.list xs) := fun σ H H1 st Q q =>
  h σ H H1 st _ fun p vs G H2 f h1 hg h2 dv => by
    refine q _ (upd G p (.lst vs)) H2 ⟨f.g.trans (newS hg), fun b x z => ?_, f.s, fun b hw c1 c2 => ?_, f.m⟩ (.lst (.inl (.inl upd_same)) (dms (newS hg) dv))
    · by_cases c : b = p
      · subst c; rw [upd_same] at z; cases z; exact h2
      · rw [upd_ne c] at z; exact f.r b x z
    · have c : b ≠ p := fun z => c2 (by rw [z]; exact h1)
      rw [upd_ne c]; exact f.n b hw c1 c2
theorem EvO.l (h : EvO K te env xs) : EvL K te env xs := fun σ H H1 st Q q =>
  h σ H H1 st _ fun p vs G H2 f h1 hg h2 dv => q p vs G H2 f h2 dv
theorem el_var {i : Nat} (h : env[i]? = some (.own xs)) : EvL K (tVar i) env xs := fun σ H H1 st Q q => by
  obtain ⟨l, vs, a, b, c, dv⟩ := st.own h
  exact ⟨_, a, q l vs H H1 (Fr.refl st.e) c dv⟩
theorem ev_lst {t : TA} (h : EvA K t env ds) (hl : ds.length ≤ 100000) : Ev K (tLst t) env (.list ds) := (eo_lst h hl).ev
/-- list + list -/
theorem eo_cat (ha : EvL K ta env xs) (hb : EvL K tb env ys) (hl : xs.length + ys.length ≤ 100000) : EvO K (tOp rCat ta tb) env (xs ++ ys) := fun σ H H1 st Q q =>
  ha σ H H1 st _ fun p vs G H2 f h2 dv => hb σ G H2 (st.mono f) _ fun p2 vs2 G3 H3 f3 h3 dv2 => by
    refine ⟨p, p2, vs, vs2, rfl, rfl, f3.a _ _ h2, h3, sz_ok (by rw [dpa_len dv, dpa_len dv2]; exact hl), fun p4 h4 => ?_⟩
    have n : Fr0 G3 H3 G3 (upd H3 p4 (.lst (vs ++ vs2))) := Fr.hid f3.r h4
    exact q p4 _ G3 _ ((f.tr0 f3).tr0 n) ((f.tr0 f3).a.free h4) (f3.r.free h4) upd_same (dpa_app (dms f3.g dv) dv2)
theorem dpa_rep {vs : List V} (h : DpAll K H vs xs) : ∀ n : Nat, DpAll K H (List.replicate n vs).flatten (List.replicate n xs).flatten
  | 0 => .nil
  | n + 1 => by rw [List.replicate_succ, List.replicate_succ, List.flatten_cons, List.flatten_cons]; exact dpa_app h (dpa_rep h n)
/-- list * int -/
theorem eo_rep (ha : EvL K ta env xs) (hb : Ev K tb env (.int i)) (h1 : -100000 ≤ i ∧ i ≤ 100000) (hl : xs.length * i.toNat ≤ 100000) : EvO K (tOp rRep ta tb) env (List.replicate i.toNat xs).flatten := fun σ H H1 st Q q =>
  ha σ H H1 st _ fun p vs G H2 f h2 dv => hb σ G H2 (st.mono f) _ fun y G3 H3 f3 dy => by
    cases dy
    refine ⟨p, i, vs, rfl, rfl, f3.a _ _ h2, by omega, by omega, sz_ok (by rw [dpa_len dv]; exact hl), fun p4 h4 => ?_⟩
    have n : Fr0 G3 H3 G3 (upd H3 p4 (.lst (List.replicate i.toNat vs).flatten)) := Fr.hid f3.r h4
    exact q p4 _ G3 _ ((f.tr0 f3).tr0 n) ((f.tr0 f3).a.free h4) (f3.r.free h4) upd_same (dpa_rep (dms f3.g dv) _)

/-! ### tests -/
theorem et_test {b : Bool} (h : Ev K te env (.bool b)) : EvT K (tTest te) env b := fun σ H H1 st Q q => h σ H H1 st _ fun v G H2 f d => by cases d; exact ⟨b, rfl, q G H2 f⟩
theorem et_B {b : Bool} (h : Ev K te env (.bool b)) : EvT K (tB te) env b := fun σ H H1 st Q q => h σ H H1 st _ fun v G H2 f d => by cases d; exact ⟨b, rfl, q G H2 f⟩
theorem et_and {a b : Bool} (h1 : EvT K t env a) (h2 : a = true → EvT K u env b) : EvT K (tAnd t u) env (a && b) := fun σ H H1 st Q q => h1 σ H H1 st _ fun G H2 f => by
  cases a with
  | true => exact h2 rfl σ G H2 (st.mono f) Q fun G3 H3 f3 => q G3 H3 (f.tr0 f3)
  | false => exact q G H2 f
theorem et_or {a b : Bool} (h1 : EvT K t env a) (h2 : a = false → EvT K u env b) : EvT K (tOr t u) env (a || b) := fun σ H H1 st Q q => h1 σ H H1 st _ fun G H2 f => by
  cases a with
  | true => exact q G H2 f
  | false => exact h2 rfl σ G H2 (st.mono f) Q fun G3 H3 f3 => q G3 H3 (f.tr0 f3)
theorem et_not {a : Bool} (h1 : EvT K t env a) : EvT K (tNot t) env (!a) := fun σ H H1 st Q q => h1 σ H H1 st _ fun G H2 f => q G H2 f
theorem ev_andV {a b : Bool} (h1 : Ev K ta env (.bool a)) (h2 : a = true → Ev K tb env (.bool b)) : Ev K (tAndV ta tb) env (.bool (a && b)) := fun σ H H1 st Q q => h1 σ H H1 st _ fun v G H2 f d => by
  cases d
  refine ⟨a, rfl, ?_⟩
  cases a with
  | true => exact h2 rfl σ G H2 (st.mono f) Q fun v G3 H3 f3 => q v G3 H3 (f.tr0 f3)
  | false => exact q _ G H2 f (.bl _)
theorem ev_orV {a b : Bool} (h1 : Ev K ta env (.bool a)) (h2 : a = false → Ev K tb env (.bool b)) : Ev K (tOrV ta tb) env (.bool (a || b)) := fun σ H H1 st Q q => h1 σ H H1 st _ fun v G H2 f d => by
  cases d
  refine ⟨a, rfl, ?_⟩
  cases a with
  | true => exact q _ G H2 f (.bl _)
  | false => exact h2 rfl σ G H2 (st.mono f) Q fun v G3 H3 f3 => q v G3 H3 (f.tr0 f3)
theorem ev_notV {a : Bool} (h1 : Ev K ta env (.bool a)) : Ev K (tNotV ta) env (.bool (!a)) := fun σ H H1 st Q q => h1 σ H H1 st _ fun v G H2 f d => by
  cases d
  exact ⟨a, rfl, q _ G H2 f (.bl _)⟩
theorem ev_if {b : Bool} (h : EvT K t env b) (h1 : b = true → Ev K ta env d) (h2 : b = false → Ev K tb env d) : Ev K (tIf t ta tb) env d := fun σ H H1 st Q q => h σ H H1 st _ fun G H2 f => by
  cases b with
  | true => exact h1 rfl σ G H2 (st.mono f) Q fun v G3 H3 f3 => q v G3 H3 (f.tr0 f3)
  | false => exact h2 rfl σ G H2 (st.mono f) Q fun v G3 H3 f3 => q v G3 H3 (f.tr0 f3)

/-! ### calls of what is built in -/
theorem ev_cb {r : List V → Hp → VK → Prop} {t : TA} (ha : EvA K t env ds) {f : PyData} (hr : ∀ vs H H1 (Q : VK), Same H H1 → DpAll K H vs ds → (∀ v G H2, Fr0 H H1 G H2 → Dp K G v f → Q v H2) → r vs H1 Q) : Ev K (tCB r t) env f := fun σ H H1 st Q q =>
  ha σ H H1 st _ fun vs G1 H2 f1 d1 => hr vs G1 H2 _ f1.r d1 fun v G3 H4 f3 d3 => q v G3 H4 (f1.tr0 f3) d3
theorem ev_len (ha : Ev K ta env (.list xs)) : Ev K (tCB (fun xs H Q => ∃ p ys, xs = [.ref p] ∧ (SqL K H p ys ∨ SqT K H p ys) ∧ Q (.int ys.length) H) (tCons ta tNil)) env (.int xs.length) :=
  ev_cb (ea_cons ha ea_nil) fun vs H H1 Q s d q => by
    cases d with
    | cons a b =>
      cases b
      cases a with
      | lst hl ha =>
        refine ⟨_, _, rfl, .inl (s.seq hl), ?_⟩
        rw [dpa_len ha]
        exact q _ H H1 (Fr.refl s) (.int _)
theorem ev_lenT (ha : Ev K ta env (.tuple xs)) : Ev K (tCB (fun xs H Q => ∃ p ys, xs = [.ref p] ∧ (SqL K H p ys ∨ SqT K H p ys) ∧ Q (.int ys.length) H) (tCons ta tNil)) env (.int xs.length) :=
  ev_cb (ea_cons ha ea_nil) fun vs H H1 Q s d q => by
    cases d with
    | cons a b =>
      cases b
      cases a with
      | tup hl ha =>
        refine ⟨_, _, rfl, .inr (sqt s hl), ?_⟩
        rw [dpa_len ha]
        exact q _ H H1 (Fr.refl s) (.int _)
theorem ev_lenO (ha : EvL K ta env xs) : Ev K (tCB (fun xs H Q => ∃ p ys, xs = [.ref p] ∧ (SqL K H p ys ∨ SqT K H p ys) ∧ Q (.int ys.length) H) (tCons ta tNil)) env (.int xs.length) := fun σ H H1 st Q q =>
  ha σ H H1 st _ fun p vs G H2 f h2 dv => by
    refine ⟨p, vs, rfl, .inl (.inl (.inl h2)), ?_⟩
    rw [dpa_len dv]
    exact q _ G H2 f (.int _)
/-- list(x): a new list -/
theorem eo_list (ha : Ev K ta env (.list xs)) : EvO K (tCB (fun xs H Q => ∃ p ys, xs = [.ref p] ∧ (SqL K H p ys ∨ SqT K H p ys) ∧ ∀ l, H l = none → Q (.ref l) (upd H l (.lst ys))) (tCons ta tNil)) env xs := fun σ H H1 st Q q =>
  ha σ H H1 st _ fun v G H2 f d => by
    cases d with
    | lst hl hd =>
      refine ⟨_, _, rfl, .inl (f.r.seq hl), fun l h => ?_⟩
      exact q l _ G _ (f.tr0 (Fr.hid f.r h)) (f.a.free h) (f.r.free h) upd_same hd
theorem eo_listT (ha : Ev K ta env (.tuple xs)) : EvO K (tCB (fun xs H Q => ∃ p ys, xs = [.ref p] ∧ (SqL K H p ys ∨ SqT K H p ys) ∧ ∀ l, H l = none → Q (.ref l) (upd H l (.lst ys))) (tCons ta tNil)) env xs := fun σ H H1 st Q q =>
  ha σ H H1 st _ fun v G H2 f d => by
    cases d with
    | tup hl hd =>
      refine ⟨_, _, rfl, .inr (sqt f.r hl), fun l h => ?_⟩
      exact q l _ G _ (f.tr0 (Fr.hid f.r h)) (f.a.free h) (f.r.free h) upd_same hd
theorem eo_listO (ha : EvL K ta env xs) : EvO K (tCB (fun xs H Q => ∃ p ys, xs = [.ref p] ∧ (SqL K H p ys ∨ SqT K H p ys) ∧ ∀ l, H l = none → Q (.ref l) (upd H l (.lst ys))) (tCons ta tNil)) env xs := fun σ H H1 st Q q =>
  ha σ H H1 st _ fun p vs G H2 f h2 dv => by
    refine ⟨p, vs, rfl, .inl (.inl (.inl h2)), fun l h => ?_⟩
    exact q l _ G _ (f.tr0 (Fr.hid f.r h)) (f.a.free h) (f.r.free h) upd_same dv
/-- tuple(list) -/
theorem ev_tuple (ha : EvL K ta env xs) : Ev K (tCB (fun xs H Q => ∃ p ys, xs = [.ref p] ∧ ((SqL K H p ys ∧ ∀ l, H l = none → Q (.ref l) (upd H l (.tup ys))) ∨ (SqT K H p ys ∧ Q (.ref p) H))) (tCons ta tNil)) env (.tuple xs) := fun σ H H1 st Q q =>
  ha σ H H1 st _ fun p vs G H2 f h2 dv => by
    refine ⟨p, vs, rfl, .inl ⟨.inl (.inl h2), fun l h => ?_⟩⟩
    have n : Fr0 G H2 (upd G l (.tup vs)) (upd H2 l (.tup vs)) := Fr.new f.r h
    exact q _ _ _ (f.tr0 n) (.tup (.inl (.inl upd_same)) (dms n.g dv))
theorem ev_abs (ha : Ev K ta env (.int i)) : Ev K (tCB (fun xs H Q => ∃ i, xs = [.int i] ∧ Q (.int (if i < 0 then -i else i)) H) (tCons ta tNil)) env (.int (if i < 0 then -i else i)) :=
  ev_cb (ea_cons ha ea_nil) fun vs H H1 Q s d q => by
    cases d with
    | cons a b => cases b; cases a; exact ⟨i, rfl, q _ H H1 (Fr.refl s) (.int _)⟩
theorem ev_max2 (ha : Ev K ta env (.int i)) (hb : Ev K tb env (.int j)) : Ev K (tCB (fun xs H Q => ∃ i j, xs = [.int i, .int j] ∧ Q (.int (if j > i then j else i)) H) (tCons ta (tCons tb tNil))) env (.int (if j > i then j else i)) :=
  ev_cb (ea_cons ha (ea_cons hb ea_nil)) fun vs H H1 Q s d q => by
    cases d with
    | cons a b => cases b with | cons b c => cases c; cases a; cases b; exact ⟨i, j, rfl, q _ H H1 (Fr.refl s) (.int _)⟩
theorem ev_min2 (ha : Ev K ta env (.int i)) (hb : Ev K tb env (.int j)) : Ev K (tCB (fun xs H Q => ∃ i j, xs = [.int i, .int j] ∧ Q (.int (if j < i then j else i)) H) (tCons ta (tCons tb tNil))) env (.int (if j < i then j else i)) :=
  ev_cb (ea_cons ha (ea_cons hb ea_nil)) fun vs H H1 Q s d q => by
    cases d with
    | cons a b => cases b with | cons b c => cases c; cases a; cases b; exact ⟨i, j, rfl, q _ H H1 (Fr.refl s) (.int _)⟩
theorem ev_intb {b : Bool} (ha : Ev K ta env (.bool b)) : Ev K (tCB (fun xs H Q => (∃ i, xs = [.int i] ∧ Q (.int i) H) ∨ ∃ k, xs = [.bl k] ∧ Q (.int (if k then 1 else 0)) H) (tCons ta tNil)) env (.int (if b then 1 else 0)) :=
  ev_cb (ea_cons ha ea_nil) fun vs H H1 Q s d q => by
    cases d with
    | cons a c => cases c; cases a; exact .inr ⟨b, rfl, q _ H H1 (Fr.refl s) (.int _)⟩
/-! isinstance -/
def tyD : PyData → Value
  | .none => .type "NoneType"
  | .bool _ => .type "bool"
  | .int _ => .type "int"
  | .str _ => .type "str"
  | .list _ => .type "list"
  | .tuple _ => .type "tuple"
  | .dict _ => .type "dict"
theorem ty_dp {v : V} (h : Dp K H v d) : TyX K H v (tyD d) := by
  cases h with
  | non => exact .base .non
  | bl b => exact .base (.bl b)
  | int i => exact .base (.int i)
  | str x => exact .base (.str x)
  | lst a _ =>
    rcases a with (a | ⟨o, a⟩) | ⟨o, its, n, a, b, _⟩
    · exact .base (.lst a)
    · exact .base (.frz a)
    · exact .kList a b
  | tup a _ =>
    rcases a with (a | ⟨o, a⟩) | ⟨o, its, n, a, b, _⟩
    · exact .base (.tup a)
    · exact .fTuple a
    · exact .kTuple a b
theorem ev_isi {n : String} {b : Bool} (ha : Ev K ta env d) (h : PySem.W.kitOne K (tyD d) (.type n) = some b) : Ev K (tCB (rIsi K) (tCons ta (tCons (tC (.ty n)) tNil))) env (.bool b) := fun σ H H1 st Q q =>
  ha σ H H1 st _ fun v G H2 f d1 => ⟨v, .ty n, _, _, b, rfl, .ty n, ty_dp (dm f.r d1), h, q _ G H2 f (.bl b)⟩
end
end Pf

namespace Pf
open PySem PySem.Spec PyProof.Rows L2

/-! ### statements -/
/-- how a piece of a body ends -/
inductive Oc where
  | nx (env : List SV)
  /-- gives data back -/
  | rt (d : PyData)
  /-- gives a list of its own back -/
  | rl (xs : List PyData)
  | bk (env : List SV)
  | ct (env : List SV)
  /-- an exception of the class c leaves -/
  | ex (c : Value) (env : List SV)
  /-- gives this value back -/
  | rr (v : V)
  /-- gives a new tuple of these values back -/
  | rw (vs : List V) (env : List SV)
def Oc.isNx : Oc → Bool
  | .nx _ => true
  | _ => false
def OcOk (K : PySem.W.Frag) (X : WX) (W : Addr → Prop) (D : Ends) (H H1 : Hp) : Oc → Prop
  | .nx env => ∀ σ G H2, Fr W H H1 G H2 → Stt K G H2 σ env → (∀ l, Ow σ env l → W l ∨ H1 l = none) → D.nx σ H2
  | .bk env => ∀ σ G H2, Fr W H H1 G H2 → Stt K G H2 σ env → (∀ l, Ow σ env l → W l ∨ H1 l = none) → D.bk σ H2
  | .ct env => ∀ σ G H2, Fr W H H1 G H2 → Stt K G H2 σ env → (∀ l, Ow σ env l → W l ∨ H1 l = none) → D.ct σ H2
  | .ex c env => ∀ σ G H2, Fr W H H1 G H2 → Stt K G H2 σ env → (∀ l, Ow σ env l → W l ∨ H1 l = none) → X c none σ H2
  | .rt d => ∀ v G H2, Fr W H H1 G H2 → Dp K G v d → D.rt v H2
  | .rl xs => ∀ p vs G H2, Fr W H H1 G H2 → W p ∨ H1 p = none → G p = none → H2 p = some (.lst vs) → DpAll K G vs xs → D.rt (.ref p) H2
  | .rr v => ∀ G H2, Fr W H H1 G H2 → D.rt v H2
  | .rw vs env => ∀ t σ G H2, Fr W H H1 G H2 → SqT K G t vs → Stt K G H2 σ env → (∀ l, Ow σ env l → W l ∨ H1 l = none) → D.rt (.ref t) H2
/-- the statements end so -/
def Sx (K : PySem.W.Frag) (X : WX) (ts : TS) (env : List SV) (oc : Oc) : Prop := ∀ σ H H1, Stt K H H1 σ env → ∀ D : Ends, OcOk K X (Ow σ env) D H H1 oc → ts D σ H1
section
variable {K : PySem.W.Frag} {X : WX} {env env1 env2 : List SV} {ta tb tc te : TE} {t u ts : TS} {tt : TT} {d e : PyData} {i j : Int} {xs ys ds : List PyData} {oc : Oc}
theorem OcOk.tr {W W' : Addr → Prop} {D : Ends} {H H1 G H2 : Hp} (h : OcOk K X W D H H1 oc) (f : Fr W H H1 G H2) (w : ∀ p, W' p → W p ∨ H1 p = none) : OcOk K X W' D G H2 oc := by
  have ww : ∀ {p : Addr}, W' p ∨ H2 p = none → W p ∨ H1 p = none := fun {p} z => z.elim (w p) fun z => .inr (f.m p z)
  cases oc with
  | nx env => exact fun σ G' H3 f' st o => h σ G' H3 (f.trans f' w) st fun l z => ww (o l z)
  | bk env => exact fun σ G' H3 f' st o => h σ G' H3 (f.trans f' w) st fun l z => ww (o l z)
  | ct env => exact fun σ G' H3 f' st o => h σ G' H3 (f.trans f' w) st fun l z => ww (o l z)
  | ex c env => exact fun σ G' H3 f' st o => h σ G' H3 (f.trans f' w) st fun l z => ww (o l z)
  | rt d => exact fun v G' H3 f' dv => h v G' H3 (f.trans f' w) dv
  | rl xs => exact fun p vs G' H3 f' a b c dv => h p vs G' H3 (f.trans f' w) (ww a) b c dv
  | rr v => exact fun G' H3 f' => h G' H3 (f.trans f' w)
  | rw vs env => exact fun t σ G' H3 f' a st o => h t σ G' H3 (f.trans f' w) a st fun l z => ww (o l z)
theorem OcOk.tr0 {W : Addr → Prop} {D : Ends} {H H1 G H2 : Hp} (h : OcOk K X W D H H1 oc) (f : Fr0 H H1 G H2) : OcOk K X W D G H2 oc :=
  h.tr (f.mono fun _ z => z.elim) fun _ z => .inl z
theorem Sx.to {oc' : Oc} (h : Sx K X t env oc) (q : oc = oc') : Sx K X t env oc' := q ▸ h

/-! one after another -/
theorem sx_seq (h1 : Sx K X t env (.nx env1)) (h2 : Sx K X u env1 oc) : Sx K X (tSeq t u) env oc := fun σ H H1 st D q =>
  h1 σ H H1 st { D with nx := u D } fun σ' G H2 f st' o => h2 σ' G H2 st' D (q.tr f o)
/-- what ends here -/
theorem sx_end (h1 : Sx K X t env oc) (he : oc.isNx = false) : Sx K X (tSeq t u) env oc := fun σ H H1 st D q =>
  h1 σ H H1 st { D with nx := u D } (by
    cases oc with
    | nx env => cases he
    | bk env => exact q
    | ct env => exact q
    | ex c env => exact q
    | rt d => exact q
    | rl xs => exact q
    | rr v => exact q
    | rw vs e => exact q)
theorem sx_next : Sx K X tNext env (.nx env) := fun σ H H1 st D q => q σ H H1 (Fr.refl st.e) st fun l z => .inl z
theorem sx_break : Sx K X tBreak env (.bk env) := fun σ H H1 st D q => q σ H H1 (Fr.refl st.e) st fun l z => .inl z
theorem sx_cont : Sx K X tCont env (.ct env) := fun σ H H1 st D q => q σ H H1 (Fr.refl st.e) st fun l z => .inl z
theorem sx_cut (h1 : Sx K X t env (.nx env1)) (h2 : Sx K X u env1 oc) : Sx K X (Evl.tCut t u) env oc := fun σ H H1 st D q =>
  ⟨u D, h1 σ H H1 st { D with nx := u D } fun σ' G H2 f st' o => h2 σ' G H2 st' D (q.tr f o), fun _ _ z => z⟩
theorem sx_set {i : Nat} (h : Ev K te env d) : Sx K X (tAsg te (gName i)) env (.nx (env.set i (.dat d))) := fun σ H H1 st D q =>
  h σ H H1 st _ fun v G H2 f dv => q (σ.set i (some v)) G H2 (f.mono fun _ z => z.elim) ((st.mono f).setD dv) fun l z => by
    rcases Ow.set z with z | ⟨z, _⟩
    · exact .inl z
    · cases z
theorem sx_setO {i : Nat} (h : EvO K te env xs) : Sx K X (tAsg te (gName i)) env (.nx (env.set i (.own xs))) := fun σ H H1 st D q =>
  h σ H H1 st _ fun p vs G H2 f h1 hg h2 dv => q (σ.set i (some (.ref p))) G H2 (f.mono fun _ z => z.elim) (st.setN f h1 hg h2 dv) fun l z => by
    rcases Ow.set z with z | ⟨_, z⟩
    · exact .inl z
    · cases z; exact .inr h1
theorem sx_ret (h : Ev K te env d) : Sx K X (tRet te) env (.rt d) := fun σ H H1 st D q =>
  h σ H H1 st _ fun v G H2 f dv => q v G H2 (f.mono fun _ z => z.elim) dv
theorem sx_retO (h : EvO K te env xs) : Sx K X (tRet te) env (.rl xs) := fun σ H H1 st D q =>
  h σ H H1 st _ fun p vs G H2 f h1 hg h2 dv => q p vs G H2 (f.mono fun _ z => z.elim) (.inr h1) hg h2 dv
/-- one's own list is given back -/
theorem sx_retV {i : Nat} (h : env[i]? = some (.own xs)) : Sx K X (tRet (tVar i)) env (.rl xs) := fun σ H H1 st D q => by
  obtain ⟨l, vs, a, b, c, dv⟩ := st.own h
  exact ⟨_, a, q l vs H H1 (Fr.refl st.e) (.inl ⟨i, _, h, rfl, a⟩) b c dv⟩
theorem sx_drop (h : Ev K te env d) : Sx K X (tDrop te) env (.nx env) := fun σ H H1 st D q =>
  h σ H H1 st _ fun v G H2 f dv => q σ G H2 (f.mono fun _ z => z.elim) (st.mono f) fun l z => .inl z
theorem sx_if {b : Bool} (h : EvT K tt env b) (h1 : b = true → Sx K X t env oc) (h2 : b = false → Sx K X u env oc) : Sx K X (tIfS tt t u) env oc := fun σ H H1 st D q =>
  h σ H H1 st _ fun G H2 f => by
    cases b with
    | true => exact h1 rfl σ G H2 (st.mono f) D (q.tr0 f)
    | false => exact h2 rfl σ G H2 (st.mono f) D (q.tr0 f)
theorem sx_yes (h : EvT K tt env true) (h1 : Sx K X t env oc) : Sx K X (tIfS tt t u) env oc := sx_if h (fun _ => h1) fun z => nomatch z
theorem sx_no (h : EvT K tt env false) (h1 : Sx K X u env oc) : Sx K X (tIfS tt t u) env oc := sx_if h (fun z => nomatch z) fun _ => h1
/-- an if that may end the body, and what follows -/
theorem sx_when {b : Bool} (h : EvT K tt env b) (h1 : b = true → Sx K X t env oc) (he : b = true → oc.isNx = false) (h2 : b = false → Sx K X ts env oc) : Sx K X (tSeq (tIfS tt t tNext) ts) env oc := by
  cases b with
  | true => exact sx_end (sx_yes h (h1 rfl)) (he rfl)
  | false => exact sx_seq (sx_no h sx_next) (h2 rfl)
/-- if c: .. else: .., and what follows from either -/
theorem sx_ifs {b : Bool} (h : EvT K tt env b) (h1 : b = true → Sx K X t env (.nx env1)) (h2 : b = false → Sx K X u env (.nx env1)) (h3 : Sx K X ts env1 oc) : Sx K X (tSeq (tIfS tt t u) ts) env oc := sx_seq (sx_if h h1 h2) h3
/-- xs.append(e) -/
theorem sx_app {i : Nat} (h : env[i]? = some (.own xs)) (he : Ev K te env d) (hz : xs.length < 100000) : Sx K X (tDrop (tBM K "list" rAppend (tVar i) (tCons te tNil))) env (.nx (env.set i (.own (xs ++ [d])))) := fun σ H H1 st D q => by
  obtain ⟨l, vs, a, b, c, dv⟩ := st.own h
  refine ⟨_, a, .inl ⟨rfl, _, .inl (.inl c)⟩, he σ H H1 st _ fun v G H2 f dv2 => ?_⟩
  have st2 := st.mono f
  obtain ⟨l', vs', a', b', c', dv'⟩ := st2.own h
  rw [a] at a'; cases a'
  have hw : Ow σ env l := ⟨i, _, h, rfl, a⟩
  refine ⟨l, vs', v, rfl, rfl, c', sz_lt (by rw [dpa_len dv']; exact hz), ?_⟩
  have e2 : Same G (upd H2 l (.lst (vs' ++ [v]))) := fun p o z => by
    rw [upd_ne (ne_of_none z b')]; exact f.r p o z
  refine q σ G _ ⟨f.g, e2, fun p o nw z => ?_, fun p nw => f.n p (fun z => z), fun p z => f.m p (upd_none z)⟩ ?_ fun l z => ?_
  · have n : p ≠ l := fun z => nw (z ▸ hw)
    rw [upd_ne n]; exact f.s p o (fun z => z) z
  · refine ⟨e2, by rw [List.length_set]; exact st2.l, fun j o s ea eb => ?_, fun j k s s' p hjk b1 b2 o1 o2 a1 => ?_⟩
    · by_cases ej : i = j
      · subst ej
        rw [a] at ea; cases ea
        have hi : i < env.length := (List.getElem?_eq_some_iff.mp h).1
        rw [List.getElem?_set_self hi] at eb; cases eb
        exact ⟨l, _, rfl, b', upd_same, dpa_app dv' (.cons dv2 .nil)⟩
      · rw [List.getElem?_set_ne ej] at eb
        have ok := st2.ok j o s ea eb
        cases s with
        | no => trivial
        | dat d => exact ok
        | own zs =>
          obtain ⟨l2, ws, q1, q2, q3, q4⟩ := ok
          subst q1
          have n : l2 ≠ l := fun z => st2.ne i j _ _ l ej h eb rfl rfl a (z ▸ ea)
          exact ⟨l2, ws, rfl, q2, by rw [upd_ne n]; exact q3, q4⟩
        | obj x =>
          obtain ⟨l2, q1, q2, q3⟩ := ok
          subst q1
          have n : l2 ≠ l := fun z => st2.ne i j _ _ l ej h eb rfl rfl a (z ▸ ea)
          exact ⟨l2, rfl, q2, by rw [upd_ne n]; exact q3⟩
        | raw v => exact ok
        | dct P w kvs =>
          obtain ⟨l2, ws, q1, q2, q3, q4⟩ := ok
          subst q1
          have n : l2 ≠ l := fun z => st2.ne i j _ _ l ej h eb rfl rfl a (z ▸ ea)
          exact ⟨l2, ws, rfl, q2, by rw [upd_ne n]; exact q3, q4⟩
        | dcf P w kvs => exact ok
        | kep n xs ys => exact ok
        | rd v d => exact ok
        | tupv ws => exact ok
        | ownA l2 zs =>
          obtain ⟨q1, ws, q2, q3, q4⟩ := ok
          subst q1
          have n : l2 ≠ l := fun z => st2.ne i j _ _ l ej h eb rfl rfl a (z ▸ ea)
          exact ⟨rfl, ws, q2, by rw [upd_ne n]; exact q3, q4⟩
    · by_cases e1 : i = j
      · subst e1
        rw [List.getElem?_set_ne hjk] at b2
        exact st2.ne i k _ s' p hjk h b2 rfl o2 a1
      · rw [List.getElem?_set_ne e1] at b1
        by_cases e2 : i = k
        · subst e2
          exact st2.ne j i s _ p hjk b1 h o1 rfl a1
        · rw [List.getElem?_set_ne e2] at b2
          exact st2.ne j k s s' p hjk b1 b2 o1 o2 a1
  · obtain ⟨j, s, z1, z2, z3⟩ := z
    by_cases e1 : i = j
    · subst e1
      rw [a] at z3; cases z3
      exact .inl hw
    · rw [List.getElem?_set_ne e1] at z1
      exact .inl ⟨j, s, z1, z2, z3⟩
/-- one's own list is from now on data that stays -/
theorem Stt.freeze {H H1 : Hp} {σ : L2.St} {i : Nat} (st : Stt K H H1 σ env) (h : env[i]? = some (.own xs)) : ∃ (l : Addr) (vs : List V), σ[i]? = some (some (.ref l)) ∧ H l = none ∧ H1 l = some (.lst vs) ∧ Stt K (upd H l (.lst vs)) H1 σ (env.set i (.dat (.list xs))) := by
  obtain ⟨l, vs, a, b, c, dv⟩ := st.own h
  refine ⟨l, vs, a, b, c, fun p o z => ?_, by rw [List.length_set]; exact st.l, fun j o s ea eb => ?_, fun j k s s' p hjk b1 b2 o1 o2 a1 => ?_⟩
  · by_cases e : p = l
    · subst e; rw [upd_same] at z; cases z; exact c
    · rw [upd_ne e] at z; exact st.e p o z
  · by_cases ej : i = j
    · subst ej
      rw [a] at ea; cases ea
      have hi : i < env.length := (List.getElem?_eq_some_iff.mp h).1
      rw [List.getElem?_set_self hi] at eb; cases eb
      exact ⟨_, rfl, dp_list upd_same (dms (newS b) dv)⟩
    · rw [List.getElem?_set_ne ej] at eb
      have ok := st.ok j o s ea eb
      cases s with
      | no => trivial
      | dat d => obtain ⟨v, q1, q2⟩ := ok; exact ⟨v, q1, dm (newS b) q2⟩
      | own zs =>
        obtain ⟨l2, ws, q1, q2, q3, q4⟩ := ok
        subst q1
        have n : l2 ≠ l := fun z => st.ne i j _ _ l ej h eb rfl rfl a (z ▸ ea)
        exact ⟨l2, ws, rfl, by rw [upd_ne n]; exact q2, q3, dms (newS b) q4⟩
      | obj x =>
        obtain ⟨l2, q1, q2, q3⟩ := ok
        subst q1
        have n : l2 ≠ l := fun z => st.ne i j _ _ l ej h eb rfl rfl a (z ▸ ea)
        exact ⟨l2, rfl, by rw [upd_ne n]; exact q2, q3⟩
      | raw v => exact ok
      | dct P w kvs =>
        obtain ⟨l2, ws, q1, q2, q3, q4⟩ := ok
        subst q1
        have n : l2 ≠ l := fun z => st.ne i j _ _ l ej h eb rfl rfl a (z ▸ ea)
        exact ⟨l2, ws, rfl, by rw [upd_ne n]; exact q2, q3, q4.mono (newS b)⟩
      | dcf P w kvs => obtain ⟨l2, o, ws, q1, q2, q3⟩ := ok; exact ⟨l2, o, ws, q1, newS b _ _ q2, q3.mono (newS b)⟩
      | kep n xs ys => obtain ⟨t, p1, p2, vs, ws, e0, e1, e2, e3, e4, e5⟩ := ok; exact ⟨t, p1, p2, vs, ws, e0, sqt (newS b) e1, newS b _ _ e2, dms (newS b) e3, newS b _ _ e4, dms (newS b) e5⟩
      | rd v d => exact ⟨ok.1, dm (newS b) ok.2⟩
      | tupv ws => obtain ⟨t, q1, q2⟩ := ok; exact ⟨t, q1, sqt (newS b) q2⟩
      | ownA l2 zs =>
        obtain ⟨q1, ws, q2, q3, q4⟩ := ok
        subst q1
        have n : l2 ≠ l := fun z => st.ne i j _ _ l ej h eb rfl rfl a (z ▸ ea)
        exact ⟨rfl, ws, by rw [upd_ne n]; exact q2, q3, dms (newS b) q4⟩
  · have e1 : i ≠ j := fun z => by
      subst z
      have hi : i < env.length := (List.getElem?_eq_some_iff.mp h).1
      rw [List.getElem?_set_self hi] at b1; cases b1; cases o1
    have e2 : i ≠ k := fun z => by
      subst z
      have hi : i < env.length := (List.getElem?_eq_some_iff.mp h).1
      rw [List.getElem?_set_self hi] at b2; cases b2; cases o2
    rw [List.getElem?_set_ne e1] at b1
    rw [List.getElem?_set_ne e2] at b2
    exact st.ne j k s s' p hjk b1 b2 o1 o2 a1
theorem Ow.freeze {σ : L2.St} {i : Nat} {l : Addr} (w : Ow σ (env.set i (.dat d)) l) : Ow σ env l := by
  obtain ⟨j, s, a, b, c⟩ := w
  by_cases e : i = j
  · subst e
    have hi : i < env.length := by have := (List.getElem?_eq_some_iff.mp a).1; rwa [List.length_set] at this
    rw [List.getElem?_set_self hi] at a
    cases a; cases b
  · rw [List.getElem?_set_ne e] at a
    exact ⟨j, s, a, b, c⟩
theorem sx_fix (i : Nat) (h : env[i]? = some (.own xs)) (k : Sx K X t (env.set i (.dat (.list xs))) oc) : Sx K X t env oc := fun σ H H1 st D q => by
  obtain ⟨l, vs, a, b, c, st'⟩ := st.freeze h
  refine k σ _ H1 st' D (q.tr ⟨newS b, st'.e, fun _ _ _ z => z, fun p nw hp _ => ?_, fun _ z => z⟩ fun p z => .inl (Ow.freeze z))
  have n : p ≠ l := fun z => nw ⟨i, _, h, rfl, by rw [z]; exact a⟩
  rw [upd_ne n]; exact hp
/-- within an expression whose answer is flat, one's own list may be read as data -/
theorem ev_fix {w : V} (i : Nat) (h : env[i]? = some (.own xs)) (hd : fv d = some w) (k : Ev K te (env.set i (.dat (.list xs))) d) : Ev K te env d := fun σ H H1 st Q q => by
  obtain ⟨l, vs, a, b, c, st'⟩ := st.freeze h
  refine k σ _ H1 st' Q fun v G H2 f dv => ?_
  cases dp_fv hd dv
  refine q _ H H2 ⟨Same.refl _, (newS b).trans (f.g.trans f.r), f.s, fun _ _ z _ => z, f.m⟩ ?_
  revert hd
  cases dv <;> intro hd
  · exact .non
  · exact .bl _
  · exact .int _
  · exact .str _
  · cases hd
  · cases hd
/-- less is known -/
theorem Stt.less {H H1 : Hp} {σ : L2.St} (st : Stt K H H1 σ env) (hl : env1.length = env.length) (h : ∀ (i : Nat) s, env1[i]? = some s → s = .no ∨ env[i]? = some s) : Stt K H H1 σ env1 := by
  refine ⟨st.e, by rw [hl]; exact st.l, fun i o s a b => ?_, fun i j s s' l hij b1 b2 o1 o2 a1 => ?_⟩
  · rcases h i s b with z | z
    · subst z; trivial
    · exact st.ok i o s a z
  · rcases h i s b1 with z | z
    · subst z; cases o1
    · rcases h j s' b2 with y | y
      · subst y; cases o2
      · exact st.ne i j s s' l hij z y o1 o2 a1
end
end Pf

namespace Pf
open PySem PySem.Spec PyProof.Rows L2

section
variable {K : PySem.W.Frag} {X : WX} {env env1 env2 : List SV} {ta tb tc te tl : TE} {t u ts : TS} {tt : TT} {d e : PyData} {i j : Int} {xs ys ds : List PyData} {oc : Oc}
/-! ### targets -/
/-- the data d given to a target -/
def Tg (K : PySem.W.Frag) (g : TG) (env : List SV) (d : PyData) (env' : List SV) : Prop := ∀ σ H H1 v, Stt K H H1 σ env → Dp K H v d → ∀ Q : L2.St → Hp → Prop, (∀ σ', Stt K H H1 σ' env' → (∀ l, Ow σ' env' l → Ow σ env l) → Q σ' H1) → g v σ H1 Q
def Tgs (K : PySem.W.Frag) (g : TGs) (env : List SV) (ds : List PyData) (env' : List SV) : Prop := ∀ σ H H1 vs, Stt K H H1 σ env → DpAll K H vs ds → ∀ Q : L2.St → Hp → Prop, (∀ σ', Stt K H H1 σ' env' → (∀ l, Ow σ' env' l → Ow σ env l) → Q σ' H1) → g vs σ H1 Q
theorem tg_name {n : Nat} : Tg K (gName n) env d (env.set n (.dat d)) := fun σ H H1 v st dv Q q =>
  q _ (st.setD dv) fun l z => by
    rcases Ow.set z with z | ⟨z, _⟩
    · exact z
    · cases z
theorem tgs_nil : Tgs K gNil env [] env := fun σ H H1 vs st dv Q q => by cases dv; exact ⟨rfl, q _ st fun _ z => z⟩
theorem tgs_cons {g : TG} {gs : TGs} (h : Tg K g env d env1) (hs : Tgs K gs env1 ds env2) : Tgs K (gCons g gs) env (d :: ds) env2 := fun σ H H1 vs st dv Q q => by
  cases dv with
  | cons a b => exact ⟨_, _, rfl, h σ H H1 _ st a _ fun σ' st' o => hs σ' H H1 _ st' b _ fun σ2 st2 o2 => q σ2 st2 fun l z => o l (o2 l z)⟩
theorem tg_tup {n : Nat} {gs : TGs} (h : Tgs K gs env ds env1) (hn : ds.length = n) : Tg K (gTup K n gs) env (.tuple ds) env1 := fun σ H H1 v st dv Q q => by
  cases dv with
  | tup a b => exact ⟨_, _, rfl, sqt st.e a, by rw [dpa_len b]; exact hn, h σ H H1 _ st b Q q⟩
theorem sx_asg {g : TG} (h : Ev K te env d) (hg : Tg K g env d env1) : Sx K X (tAsg te g) env (.nx env1) := fun σ H H1 st D q =>
  h σ H H1 st _ fun v G H2 f dv => hg σ G H2 v (st.mono f) dv _ fun σ' st' o => q σ' G H2 (f.mono fun _ z => z.elim) st' fun l z => .inl (o l z)

/-! ### for -/
/-- what stands between two turns: from the loop's own start -/
def Pt (K : PySem.W.Frag) (W : Addr → Prop) (H H1 : Hp) (Inv : Nat → List SV) : Nat → L2.St → Hp → Prop := fun i σ' H' => ∃ G, Fr W H H1 G H' ∧ Stt K G H' σ' (Inv i) ∧ ∀ l, Ow σ' (Inv i) l → W l ∨ H1 l = none
theorem Pt.turn {W : Addr → Prop} {H H1 H' G : Hp} {Inv : Nat → List SV} {i : Nat} {σ' : L2.St} {D : Ends} (f : Fr W H H1 G H') (st : Stt K G H' σ' (Inv i)) (ow : ∀ l, Ow σ' (Inv i) l → W l ∨ H1 l = none) {D' : Ends} (hD : D'.nx = Pt K W H H1 Inv (i + 1)) (hc : D'.ct = Pt K W H H1 Inv (i + 1)) :
    OcOk K X (Ow σ' (Inv i)) D' G H' (.nx (Inv (i + 1))) ∧ OcOk K X (Ow σ' (Inv i)) D' G H' (.ct (Inv (i + 1))) := by
  have z : ∀ σ G2 H2, Fr (Ow σ' (Inv i)) G H' G2 H2 → Stt K G2 H2 σ (Inv (i + 1)) → (∀ l, Ow σ (Inv (i + 1)) l → Ow σ' (Inv i) l ∨ H' l = none) → Pt K W H H1 Inv (i + 1) σ H2 := fun σ G2 H2 f2 st2 o2 =>
    ⟨G2, f.trans f2 ow, st2, fun l z => (o2 l z).elim (ow l) fun z => .inr (f.m l z)⟩
  exact ⟨fun σ G2 H2 f2 st2 o2 => by rw [hD]; exact z σ G2 H2 f2 st2 o2, fun σ G2 H2 f2 st2 o2 => by rw [hc]; exact z σ G2 H2 f2 st2 o2⟩
/-- a body's turn: on to the next, by its end or by continue -/
def Go (K : PySem.W.Frag) (X : WX) (t : TS) (env env' : List SV) : Prop := Sx K X t env (.nx env') ∨ Sx K X t env (.ct env')
/-- for over a list of data; o i: how the turn i ends the whole, if it does -/
theorem sx_forE {g : TG} (h : Ev K tl env (.list ds)) (Inv : Nat → List SV) (h0 : Inv 0 = env) (o : Nat → Bool) (ex : Oc) (hx : ex.isNx = false) (hb : ∀ e, ex ≠ .bk e) (hc : ∀ e, ex ≠ .ct e)
    (go : ∀ (i : Nat) (d : PyData), ds[i]? = some d → (∀ j, j < i → o j = false) → ∃ env', Tg K g (Inv i) d env' ∧ ((o i = false → Go K X t env' (Inv (i + 1))) ∧ (o i = true → oc = ex ∧ Sx K X t env' ex)))
    (rest : (∀ j, j < ds.length → o j = false) → Sx K X u (Inv ds.length) oc) : Sx K X (tSeq (tFor (iList K tl) g t) u) env oc := fun σ H H1 st D q => by
  refine h σ H H1 st _ fun v G0 H2 f dv => ?_
  cases dv with
  | @lst a vs _ hl hd =>
    have f' : Fr (Ow σ env) H H1 G0 H2 := f.mono fun _ z => z.elim
    have stay : ∀ {G H' : Hp}, Fr (Ow σ env) G0 H2 G H' → SqL K H' a vs := fun {G H'} f2 => f2.r.seq (f2.g.seq hl)
    refine ⟨a, rfl, ⟨vs, f.r.seq hl⟩, for_list (K := K) (a := a) (xs := vs) (fun i σ' H' => Pt K (Ow σ env) G0 H2 Inv i σ' H' ∧ ∀ j, j < i → o j = false) ⟨⟨G0, Fr.refl f.r, by rw [h0]; exact st.mono f, fun l z => .inl (by rw [h0] at z; exact z)⟩, fun j hj => absurd hj (Nat.not_lt_zero j)⟩ (fun i σ' H' _ p => ?_) (fun i x σ' H' hi p => ?_) (fun σ' H' p => ?_)⟩
    · obtain ⟨⟨G, f2, _, _⟩, _⟩ := p
      exact stay f2
    · obtain ⟨⟨G, f2, st2, ow⟩, hj⟩ := p
      obtain ⟨d, e1, e2⟩ := dpa_get hd hi
      obtain ⟨env', tg, g1, g2⟩ := go i d e1 hj
      refine tg σ' G H' x st2 (dm f2.g e2) _ fun σ2 st3 o3 => ?_
      have ow3 : ∀ l, Ow σ2 env' l → Ow σ env l ∨ H2 l = none := fun l z => ow l (o3 l z)
      cases hoi : o i with
      | false =>
        have nx : ∀ σ3 G3 H3, Fr (Ow σ2 env') G H' G3 H3 → Stt K G3 H3 σ3 (Inv (i + 1)) → (∀ l, Ow σ3 (Inv (i + 1)) l → Ow σ2 env' l ∨ H' l = none) → Pt K (Ow σ env) G0 H2 Inv (i + 1) σ3 H3 ∧ ∀ j, j < i + 1 → o j = false := fun σ3 G3 H3 f3 st4 o4 =>
          ⟨⟨G3, f2.trans f3 ow3, st4, fun l z => (o4 l z).elim (ow3 l) fun z => .inr (f2.m l z)⟩, fun j hj' => by
            rcases Nat.lt_succ_iff_lt_or_eq.mp hj' with z | z
            · exact hj j z
            · rw [z]; exact hoi⟩
        rcases g1 hoi with w | w
        · exact w σ2 G H' st3 _ nx
        · exact w σ2 G H' st3 _ nx
      | true =>
        obtain ⟨eo, w⟩ := g2 hoi
        refine w σ2 G H' st3 _ ?_
        have q' : OcOk K X (Ow σ2 env') D G H' ex := by
          rw [eo] at q
          refine (q.tr f' fun l z => .inl z).tr f2 ow3
        cases ex with
        | nx e => cases hx
        | bk e => exact absurd rfl (hb e)
        | ct e => exact absurd rfl (hc e)
        | ex c e => exact q'
        | rt d => exact q'
        | rl x => exact q'
        | rr v => exact q'
        | rw vs e => exact q'
    · obtain ⟨⟨G, f2, st2, ow⟩, hj⟩ := p
      rw [dpa_len hd] at st2 ow hj
      exact rest hj σ' G H' st2 D ((q.tr f' fun l z => .inl z).tr f2 ow)
/-- for over a list of data, every turn goes on -/
theorem sx_for {g : TG} (h : Ev K tl env (.list ds)) (Inv : Nat → List SV) (h0 : Inv 0 = env) (go : ∀ (i : Nat) (d : PyData), ds[i]? = some d → ∃ env', Tg K g (Inv i) d env' ∧ Go K X t env' (Inv (i + 1))) : Sx K X (tFor (iList K tl) g t) env (.nx (Inv ds.length)) := fun σ H H1 st D q => by
  refine h σ H H1 st _ fun v G0 H2 f dv => ?_
  cases dv with
  | @lst a vs _ hl hd =>
    have f' : Fr (Ow σ env) H H1 G0 H2 := f.mono fun _ z => z.elim
    have stay : ∀ {G H' : Hp}, Fr (Ow σ env) G0 H2 G H' → SqL K H' a vs := fun {G H'} f2 => f2.r.seq (f2.g.seq hl)
    refine ⟨a, rfl, ⟨vs, f.r.seq hl⟩, for_list (K := K) (a := a) (xs := vs) (Pt K (Ow σ env) G0 H2 Inv) ⟨G0, Fr.refl f.r, by rw [h0]; exact st.mono f, fun l z => .inl (by rw [h0] at z; exact z)⟩ (fun i σ' H' _ p => ?_) (fun i x σ' H' hi p => ?_) (fun σ' H' p => ?_)⟩
    · obtain ⟨G, f2, _, _⟩ := p
      exact stay f2
    · obtain ⟨G, f2, st2, ow⟩ := p
      obtain ⟨d, e1, e2⟩ := dpa_get hd hi
      obtain ⟨env', tg, g1⟩ := go i d e1
      refine tg σ' G H' x st2 (dm f2.g e2) _ fun σ2 st3 o3 => ?_
      have ow3 : ∀ l, Ow σ2 env' l → Ow σ env l ∨ H2 l = none := fun l z => ow l (o3 l z)
      have nx : ∀ σ3 G3 H3, Fr (Ow σ2 env') G H' G3 H3 → Stt K G3 H3 σ3 (Inv (i + 1)) → (∀ l, Ow σ3 (Inv (i + 1)) l → Ow σ2 env' l ∨ H' l = none) → Pt K (Ow σ env) G0 H2 Inv (i + 1) σ3 H3 := fun σ3 G3 H3 f3 st4 o4 =>
        ⟨G3, f2.trans f3 ow3, st4, fun l z => (o4 l z).elim (ow3 l) fun z => .inr (f2.m l z)⟩
      rcases g1 with w | w
      · exact w σ2 G H' st3 _ nx
      · exact w σ2 G H' st3 _ nx
    · obtain ⟨G, f2, st2, ow⟩ := p
      rw [dpa_len hd] at st2 ow
      exact q σ' G H' (f'.trans f2 fun l z => .inl z) st2 fun l z => (ow l z).elim .inl fun z => .inr (f.m l z)
/-- for over range(n), range(a, b), every turn goes on -/
theorem sx_forR1 {n : Nat} {ta : TA} {g : TG} {k : Int} (h : EvA K ta env [.int k]) (hk : -100000 ≤ k ∧ k ≤ 100000) (hn : k.toNat = n) (Inv : Nat → List SV) (h0 : Inv 0 = env) (go : ∀ i : Nat, i < n → ∃ env', Tg K g (Inv i) (.int i) env' ∧ Go K X t env' (Inv (i + 1))) :
    Sx K X (tFor (iRng1 ta) g t) env (.nx (Inv n)) := fun σ H H1 st D q => by
  refine h σ H H1 st _ fun vs G0 H2 f dv => ?_
  cases dv with
  | cons a b =>
    cases b; cases a
    have f' : Fr (Ow σ env) H H1 G0 H2 := f.mono fun _ z => z.elim
    refine ⟨k, rfl, by omega, by omega, for_range (lo := 0) (n := k.toNat) (Pt K (Ow σ env) G0 H2 Inv) ⟨G0, Fr.refl f.r, by rw [h0]; exact st.mono f, fun l z => .inl (by rw [h0] at z; exact z)⟩ (fun i σ' H' hi p => ?_) (fun σ' H' p => ?_)⟩
    · obtain ⟨G, f2, st2, ow⟩ := p
      obtain ⟨env', tg, g1⟩ := go i (by omega)
      rw [Int.zero_add]
      refine tg σ' G H' _ st2 (.int _) _ fun σ2 st3 o3 => ?_
      have ow3 : ∀ l, Ow σ2 env' l → Ow σ env l ∨ H2 l = none := fun l z => ow l (o3 l z)
      have nx : ∀ σ3 G3 H3, Fr (Ow σ2 env') G H' G3 H3 → Stt K G3 H3 σ3 (Inv (i + 1)) → (∀ l, Ow σ3 (Inv (i + 1)) l → Ow σ2 env' l ∨ H' l = none) → Pt K (Ow σ env) G0 H2 Inv (i + 1) σ3 H3 := fun σ3 G3 H3 f3 st4 o4 =>
        ⟨G3, f2.trans f3 ow3, st4, fun l z => (o4 l z).elim (ow3 l) fun z => .inr (f2.m l z)⟩
      rcases g1 with w | w
      · exact w σ2 G H' st3 _ nx
      · exact w σ2 G H' st3 _ nx
    · obtain ⟨G, f2, st2, ow⟩ := p
      rw [hn] at st2 ow
      exact q σ' G H' (f'.trans f2 fun l z => .inl z) st2 fun l z => (ow l z).elim .inl fun z => .inr (f.m l z)
/-- a loop's word may forget -/
theorem sx_less (hl : env1.length = env.length) (h : ∀ (i : Nat) s, env1[i]? = some s → s = .no ∨ env[i]? = some s) (k : Sx K X t env1 oc) : Sx K X t env oc := fun σ H H1 st D q =>
  k σ H H1 (st.less hl h) D (q.tr (Fr.refl st.e) fun l z => by
    obtain ⟨j, s, a, b, c⟩ := z
    rcases h j s a with y | y
    · subst y; cases b
    · exact .inl ⟨j, s, y, b, c⟩)
theorem sx_nx_less (hl : env2.length = env1.length) (h : ∀ (i : Nat) s, env2[i]? = some s → s = .no ∨ env1[i]? = some s) (k : Sx K X t env (.nx env1)) : Sx K X t env (.nx env2) := fun σ H H1 st D q =>
  k σ H H1 st D fun σ' G H2 f st' o => q σ' G H2 f (st'.less hl h) fun l z => by
    obtain ⟨j, s, a, b, c⟩ := z
    rcases h j s a with y | y
    · subst y; cases b
    · exact o l ⟨j, s, y, b, c⟩
end
end Pf

namespace Pf
open PySem PySem.Spec PyProof.Rows L2

section
variable {K : PySem.W.Frag} {X : WX} {env env1 env2 : List SV} {ta tb tc te tl : TE} {t u ts : TS} {tt : TT} {d e : PyData} {i j : Int} {xs ys ds : List PyData} {oc : Oc}
theorem Stt.monoW {W : Addr → Prop} {H H1 G H2 : Hp} {σ : L2.St} (h : Stt K H H1 σ env) (f : Fr W H H1 G H2) (hw : ∀ l, Ow σ env l → ¬ W l) : Stt K G H2 σ env := by
  refine ⟨f.r, h.l, fun i o s a b => ?_, h.ne⟩
  have ok := h.ok i o s a b
  cases s with
  | no => trivial
  | dat d => obtain ⟨v, e1, e2⟩ := ok; exact ⟨v, e1, dm f.g e2⟩
  | own xs =>
    obtain ⟨l, vs, e1, e2, e3, e4⟩ := ok
    subst e1
    have nw := hw l ⟨i, _, b, rfl, a⟩
    exact ⟨l, vs, rfl, f.n l nw e2 (by rw [e3]; exact fun z => nomatch z), f.s _ _ nw e3, dms f.g e4⟩
  | obj x =>
    obtain ⟨l, e1, e2, e3⟩ := ok
    subst e1
    have nw := hw l ⟨i, _, b, rfl, a⟩
    exact ⟨l, rfl, f.n l nw e2 (by rw [e3]; exact fun z => nomatch z), f.s _ _ nw e3⟩
  | raw v => exact ok
  | dct P w kvs =>
    obtain ⟨l, vs, e1, e2, e3, e4⟩ := ok
    subst e1
    have nw := hw l ⟨i, _, b, rfl, a⟩
    exact ⟨l, vs, rfl, f.n l nw e2 (by rw [e3]; exact fun z => nomatch z), f.s _ _ nw e3, e4.mono f.g⟩
  | dcf P w kvs => obtain ⟨l, o, xs, q1, q2, q3⟩ := ok; exact ⟨l, o, xs, q1, f.g _ _ q2, q3.mono f.g⟩
  | kep n xs ys => obtain ⟨t, p1, p2, vs, ws, e0, e1, e2, e3, e4, e5⟩ := ok; exact ⟨t, p1, p2, vs, ws, e0, sqt f.g e1, f.g _ _ e2, dms f.g e3, f.g _ _ e4, dms f.g e5⟩
  | rd v d => exact ⟨ok.1, dm f.g ok.2⟩
  | tupv ws => obtain ⟨t, q1, q2⟩ := ok; exact ⟨t, q1, sqt f.g q2⟩
  | ownA l xs =>
    obtain ⟨e1, vs, e2, e3, e4⟩ := ok
    subst e1
    have nw := hw l ⟨i, _, b, rfl, a⟩
    exact ⟨rfl, vs, f.n l nw e2 (by rw [e3]; exact fun z => nomatch z), f.s _ _ nw e3, dms f.g e4⟩

/-! ### comprehensions -/
def wipeE (env : List SV) : List Nat → List SV
  | [] => env
  | v :: vs => (wipeE env vs).set v .no
theorem Stt.forget {H H1 : Hp} {σ : L2.St} (h : Stt K H H1 σ env) (v : Nat) : Stt K H H1 (σ.set v none) (env.set v .no) := by
  refine ⟨h.e, by rw [List.length_set, List.length_set]; exact h.l, fun j o s a b => ?_, fun j k s t l hjk b1 b2 o1 o2 a1 => ?_⟩
  · by_cases c : v = j
    · subst c
      have hi : v < env.length := by have := (List.getElem?_eq_some_iff.mp b).1; rwa [List.length_set] at this
      rw [List.getElem?_set_self hi] at b; cases b; trivial
    · rw [List.getElem?_set_ne c] at a b
      exact h.ok j o s a b
  · have c1 : v ≠ j := fun c => by
      subst c
      have hi : v < env.length := by have := (List.getElem?_eq_some_iff.mp b1).1; rwa [List.length_set] at this
      rw [List.getElem?_set_self hi] at b1; cases b1; cases o1
    have c2 : v ≠ k := fun c => by
      subst c
      have hi : v < env.length := by have := (List.getElem?_eq_some_iff.mp b2).1; rwa [List.length_set] at this
      rw [List.getElem?_set_self hi] at b2; cases b2; cases o2
    rw [List.getElem?_set_ne c1] at a1 b1
    rw [List.getElem?_set_ne c2] at b2 ⊢
    exact h.ne j k s t l hjk b1 b2 o1 o2 a1
theorem Stt.wipe {H H1 : Hp} {σ : L2.St} (h : Stt K H H1 σ env) : ∀ vs : List Nat, Stt K H H1 (L2.wipe σ vs) (wipeE env vs)
  | [] => h
  | v :: vs => (h.wipe vs).forget v
theorem Ow.wipe {σ : L2.St} {l : Addr} : ∀ {vs : List Nat}, Ow (L2.wipe σ vs) (wipeE env vs) l → Ow σ env l
  | [], z => z
  | v :: vs, z => by
    have z' : Ow ((L2.wipe σ vs).set v none) ((wipeE env vs).set v .no) l := z
    rcases Ow.set z' with y | ⟨y, _⟩
    · exact Ow.wipe y
    · cases y
theorem wipe_set {σ : L2.St} {x : Option V} {n : Nat} : ∀ {vs : List Nat}, n ∈ vs → L2.wipe (σ.set n x) vs = L2.wipe σ vs
  | v :: vs, h => by
    show (L2.wipe (σ.set n x) vs).set v none = (L2.wipe σ vs).set v none
    by_cases e : n ∈ vs
    · rw [wipe_set e]
    · have ev : n = v := by
        rcases List.mem_cons.mp h with z | z
        · exact z
        · exact absurd z e
      subst ev
      have : ∀ {ws : List Nat}, n ∉ ws → L2.wipe (σ.set n x) ws = (L2.wipe σ ws).set n x := by
        intro ws
        induction ws with
        | nil => intro _; rfl
        | cons w ws ih =>
          intro hw
          show (L2.wipe (σ.set n x) ws).set w none = ((L2.wipe σ ws).set w none).set n x
          rw [ih fun z => hw (List.mem_cons_of_mem _ z), List.set_comm _ _ fun z => hw (by rw [z]; exact List.mem_cons_self)]
      rw [this e, List.set_set]
theorem wipe_wipe {σ : L2.St} : ∀ {vs ws : List Nat}, (∀ v ∈ vs, v ∈ ws) → L2.wipe (L2.wipe σ vs) ws = L2.wipe σ ws
  | [], _, _ => rfl
  | v :: vs, ws, h => by
    show L2.wipe ((L2.wipe σ vs).set v none) ws = _
    rw [wipe_set (h v List.mem_cons_self)]
    exact wipe_wipe fun z hz => h z (List.mem_cons_of_mem _ hz)
/-- as Tg, the slots vs alone changed -/
def Tgw (K : PySem.W.Frag) (vs : List Nat) (g : TG) (env : List SV) (d : PyData) (env' : List SV) : Prop := ∀ σ H H1 v, Stt K H H1 σ env → Dp K H v d → ∀ Q : L2.St → Hp → Prop, (∀ σ', Stt K H H1 σ' env' → (∀ l, Ow σ' env' l → Ow σ env l) → L2.wipe σ' vs = L2.wipe σ vs → Q σ' H1) → g v σ H1 Q
def Tgsw (K : PySem.W.Frag) (vs : List Nat) (g : TGs) (env : List SV) (ds : List PyData) (env' : List SV) : Prop := ∀ σ H H1 ws, Stt K H H1 σ env → DpAll K H ws ds → ∀ Q : L2.St → Hp → Prop, (∀ σ', Stt K H H1 σ' env' → (∀ l, Ow σ' env' l → Ow σ env l) → L2.wipe σ' vs = L2.wipe σ vs → Q σ' H1) → g ws σ H1 Q
theorem tgw_name {n : Nat} {vs : List Nat} (hn : n ∈ vs) : Tgw K vs (gName n) env d (env.set n (.dat d)) := fun σ H H1 v st dv Q q =>
  q _ (st.setD dv) (fun l z => by
    rcases Ow.set z with z | ⟨z, _⟩
    · exact z
    · cases z) (wipe_set hn)
theorem tgsw_nil {vs : List Nat} : Tgsw K vs gNil env [] env := fun σ H H1 ws st dv Q q => by cases dv; exact ⟨rfl, q _ st (fun _ z => z) rfl⟩
theorem tgsw_cons {g : TG} {gs : TGs} {vs : List Nat} (h : Tgw K vs g env d env1) (hs : Tgsw K vs gs env1 ds env2) : Tgsw K vs (gCons g gs) env (d :: ds) env2 := fun σ H H1 ws st dv Q q => by
  cases dv with
  | cons a b => exact ⟨_, _, rfl, h σ H H1 _ st a _ fun σ' st' o w1 => hs σ' H H1 _ st' b _ fun σ2 st2 o2 w2 => q σ2 st2 (fun l z => o l (o2 l z)) (w2.trans w1)⟩
theorem tgw_tup {n : Nat} {gs : TGs} {vs : List Nat} (h : Tgsw K vs gs env ds env1) (hn : ds.length = n) : Tgw K vs (gTup K n gs) env (.tuple ds) env1 := fun σ H H1 v st dv Q q => by
  cases dv with
  | tup a b => exact ⟨_, _, rfl, sqt st.e a, by rw [dpa_len b]; exact hn, h σ H H1 _ st b Q q⟩
/-- what has been made behind some turns -/
def Mk (K : PySem.W.Frag) (G0 H2 : Hp) (D : Addr) (ds : List PyData) (H' : Hp) : Prop := ∃ G ac, Fr (fun p => p = D) G0 H2 G H' ∧ G D = none ∧ H' D = some (.lst ac) ∧ DpAll K G ac ds
theorem mk_turn {H2 H' G G0 : Hp} {D : Addr} {ac : List V} {b : Bool} {σ2 : L2.St} (f : Fr (fun p => p = D) G0 H2 G H') (hG : G D = none) (ha : H' D = some (.lst ac)) (dv : DpAll K G ac ds) (hz : ds.length < 100000)
    (st : Stt K G H' σ2 env1) (ht : EvT K tt env1 b) (he : b = true → Ev K te env1 d) :
    tt σ2 H' fun k H3 => if k = true then te σ2 H3 fun y H4 => ∃ acc, H4 D = some (.lst acc) ∧ acc.length < sizeLine ∧ Mk K G0 H2 D (ds ++ (if b = true then [d] else [])) (upd H4 D (.lst (acc ++ [y]))) else Mk K G0 H2 D (ds ++ (if b = true then [d] else [])) H3 := by
  refine ht σ2 G H' st _ fun G1 H3 f1 => ?_
  have D1 : G1 D = none := f1.n D (fun z => z) hG (by rw [ha]; exact fun z => nomatch z)
  cases b with
  | true =>
    show te σ2 H3 _
    refine he rfl σ2 G1 H3 (st.mono f1) _ fun y G2 H4 f2 d2 => ?_
    have a3 := f1.a _ _ ha
    have D2 : G2 D = none := f2.n D (fun z => z) D1 (by rw [a3]; exact fun z => nomatch z)
    have f3 := (f.tr0 f1).tr0 f2
    refine ⟨ac, f2.a _ _ a3, sz_lt (by rw [dpa_len dv]; exact hz), G2, ac ++ [y], ⟨f3.g, fun p o z => ?_, fun p o nw z => ?_, f3.n, fun p z => f3.m p (upd_none z)⟩, D2, upd_same, dpa_app (dms (f1.g.trans f2.g) dv) (.cons d2 .nil)⟩
    · rw [upd_ne (ne_of_none z D2)]; exact f3.r p o z
    · rw [upd_ne (show p ≠ D from nw)]; exact f3.s p o nw z
  | false =>
    show Mk K G0 H2 D (ds ++ []) H3
    rw [List.append_nil]
    exact ⟨G1, ac, f.tr0 f1, D1, f1.a _ _ ha, dms f1.g dv⟩
theorem mk_start {G0 H2 : Hp} {D : Addr} (e : Same G0 H2) (hD : H2 D = none) : Mk K G0 H2 D [] (upd H2 D (.lst [])) :=
  ⟨G0, [], Fr.hid e hD, e.free hD, upd_same, .nil⟩
theorem filter_next {α : Type} {f : α → Bool} {w : α → PyData} {xs : List α} {i : Nat} {x : α} (h : xs[i]? = some x) : ((xs.take (i + 1)).filter f).map w = ((xs.take i).filter f).map w ++ (if f x = true then [w x] else []) := by
  rw [List.take_add_one, h, List.filter_append, List.map_append]
  show _ ++ List.map w (List.filter f [x]) = _
  cases e : f x with
  | true => rw [List.filter_cons, if_pos e]; rfl
  | false => rw [List.filter_cons, if_neg (by rw [e]; decide)]; rfl
theorem take_short {α : Type} {f : α → Bool} {w : α → PyData} {xs : List α} {i : Nat} (h : xs.length < 100000) : (((xs.take i).filter f).map w).length < 100000 := by
  rw [List.length_map]
  refine Nat.lt_of_le_of_lt (List.length_filter_le _ _) ?_
  rw [List.length_take]; omega
/-- [e for target in a list of data if ..] -/
theorem eo_lcL {α : Type} (xs : List α) (en : α → PyData) (f : α → Bool) (w : α → PyData) {g : TG} {vs : List Nat} (h : Ev K tl env (.list (xs.map en))) (hz : xs.length < 100000) (turn : ∀ x ∈ xs, ∃ env', Tgw K vs g (wipeE env vs) (en x) env' ∧ EvT K tt env' (f x) ∧ (f x = true → Ev K te env' (w x))) :
    EvO K (tLc (iList K tl) g tt te vs) env ((xs.filter f).map w) := fun σ H H1 st Q q => by
  refine h σ H H1 st _ fun v G0 H2 f0 dv => ?_
  cases dv with
  | @lst a as _ hl hd =>
    refine ⟨a, rfl, ⟨as, f0.r.seq hl⟩, fun D hD => ?_⟩
    have st0 := st.mono f0
    have nD : ∀ l, Ow (L2.wipe σ vs) (wipeE env vs) l → ¬ l = D := fun l z e => by
      have := (st0.owned (Ow.wipe z)).2
      exact this (by rw [e]; exact hD)
    have hlen : as.length = xs.length := by rw [dpa_len hd, List.length_map]
    refine lc_list (K := K) (a := a) (xs := as) (fun i H' => Mk K G0 H2 D (((xs.take i).filter f).map w) H') (mk_start f0.r hD) (fun i H' _ p => ?_) (fun i x H' hi p => ?_) (fun H' p => ?_)
    · obtain ⟨G, ac, f1, _⟩ := p
      exact f1.r.seq (f1.g.seq hl)
    · obtain ⟨G, ac, f1, hG, ha, da⟩ := p
      obtain ⟨d, e1, e2⟩ := dpa_get hd hi
      rw [List.getElem?_map] at e1
      cases ex : xs[i]? with
      | none => rw [ex] at e1; cases e1
      | some x' =>
        rw [ex] at e1
        obtain rfl : en x' = d := Option.some.inj e1
        obtain ⟨env', tg, ht, he⟩ := turn x' (List.mem_of_getElem? ex)
        refine tg _ G H' x ((st0.wipe vs).monoW f1 nD) (dm f1.g e2) _ fun σ' st' o hw => ⟨?_, ?_⟩
        · rw [hw]; exact wipe_wipe fun _ z => z
        · rw [filter_next ex]
          exact mk_turn f1 hG ha da (take_short hz) st' ht he
    · obtain ⟨G, ac, f1, hG, ha, da⟩ := p
      have ff : Fr0 H H1 G H' := f0.trans f1 fun p z => .inr (by rw [z]; exact f0.a.free hD)
      rw [hlen, List.take_length] at da
      exact q D ac G H' ff (f0.a.free hD) hG ha da
theorem range_get {n i : Nat} (h : i < n) : (List.range n)[i]? = some i := by simp [h]
/-- [e for k in range(n) if ..] -/
theorem eo_lcR {n : Nat} {k : Int} {ta : TA} (f : Nat → Bool) (w : Nat → PyData) {g : TG} {vs : List Nat} (h : EvA K ta env [.int k]) (hk : -100000 < k ∧ k < 100000) (hn : k.toNat = n) (turn : ∀ i : Nat, i < n → ∃ env', Tgw K vs g (wipeE env vs) (.int i) env' ∧ EvT K tt env' (f i) ∧ (f i = true → Ev K te env' (w i))) :
    EvO K (tLc (iRng1 ta) g tt te vs) env (((List.range n).filter f).map w) := fun σ H H1 st Q q => by
  refine h σ H H1 st _ fun ws G0 H2 f0 dv => ?_
  cases dv with
  | cons a b =>
    cases b; cases a
    refine ⟨k, rfl, by omega, by omega, fun D hD => ?_⟩
    have st0 := st.mono f0
    have nD : ∀ l, Ow (L2.wipe σ vs) (wipeE env vs) l → ¬ l = D := fun l z e => by
      have := (st0.owned (Ow.wipe z)).2
      exact this (by rw [e]; exact hD)
    have hz : (List.range n).length < 100000 := by rw [List.length_range]; omega
    refine lc_range (lo := 0) (n := k.toNat) (fun i H' => Mk K G0 H2 D ((((List.range n).take i).filter f).map w) H') (mk_start f0.r hD) (fun i H' hi p => ?_) (fun H' p => ?_)
    · obtain ⟨G, ac, f1, hG, ha, da⟩ := p
      have ex : (List.range n)[i]? = some i := range_get (by omega)
      obtain ⟨env', tg, ht, he⟩ := turn i (by omega)
      rw [Int.zero_add]
      refine tg _ G H' _ ((st0.wipe vs).monoW f1 nD) (.int _) _ fun σ' st' o hw => ⟨?_, ?_⟩
      · rw [hw]; exact wipe_wipe fun _ z => z
      · rw [filter_next ex]
        exact mk_turn f1 hG ha da (take_short hz) st' ht he
    · obtain ⟨G, ac, f1, hG, ha, da⟩ := p
      have ff : Fr0 H H1 G H' := f0.trans f1 fun p z => .inr (by rw [z]; exact f0.a.free hD)
      rw [hn, List.take_of_length_le (by rw [List.length_range]; exact Nat.le_refl _)] at da
      exact q D ac G H' ff (f0.a.free hD) hG ha da

/-! ### calls of defs -/
/-- a def that gives data back -/
def spG (K : PySem.W.Frag) (R : List PyData → PyData → Prop) : Sp := fun vs H1 Q _ => ∃ H ds d, Same H H1 ∧ DpAll K H vs ds ∧ R ds d ∧ ∀ v G H2, Fr0 H H1 G H2 → Dp K G v d → Q v H2
/-- .. a new list -/
def spL (K : PySem.W.Frag) (R : List PyData → List PyData → Prop) : Sp := fun vs H1 Q _ => ∃ H ds xs, Same H H1 ∧ DpAll K H vs ds ∧ R ds xs ∧ ∀ p ws G H2, Fr0 H H1 G H2 → H1 p = none → G p = none → H2 p = some (.lst ws) → DpAll K G ws xs → Q (.ref p) H2
/-- .. data, or raises -/
def spX (K : PySem.W.Frag) (R : List PyData → PyData → Prop) (B : List PyData → Value → Prop) : Sp := fun vs H1 Q E => ∃ H ds, Same H H1 ∧ DpAll K H vs ds ∧ ((∃ d, R ds d ∧ ∀ v G H2, Fr0 H H1 G H2 → Dp K G v d → Q v H2) ∨ ∃ c, B ds c ∧ ∀ G H2, Fr0 H H1 G H2 → E c none H2)
/-- .. a new list, or raises -/
def spXL (K : PySem.W.Frag) (R : List PyData → List PyData → Prop) (B : List PyData → Value → Prop) : Sp := fun vs H1 Q E => ∃ H ds, Same H H1 ∧ DpAll K H vs ds ∧
  ((∃ xs, R ds xs ∧ ∀ p ws G H2, Fr0 H H1 G H2 → H1 p = none → G p = none → H2 p = some (.lst ws) → DpAll K G ws xs → Q (.ref p) H2) ∨ ∃ c, B ds c ∧ ∀ G H2, Fr0 H H1 G H2 → E c none H2)
variable {R : List PyData → PyData → Prop} {RL : List PyData → List PyData → Prop} {B : List PyData → Value → Prop} {E : L2.St → XK} {aa : TA}
theorem ev_call (ha : EvA K aa env ds) (hr : R ds d) : Ev K (tCallS (spG K R) E aa) env d := fun σ H H1 st Q q =>
  ha σ H H1 st _ fun vs G H2 f dv => ⟨G, ds, d, f.r, dv, hr, fun v G3 H3 f3 d3 => q v G3 H3 (f.tr0 f3) d3⟩
theorem eo_call (ha : EvA K aa env ds) (hr : RL ds xs) : EvO K (tCallS (spL K RL) E aa) env xs := fun σ H H1 st Q q =>
  ha σ H H1 st _ fun vs G H2 f dv => ⟨G, ds, xs, f.r, dv, hr, fun p ws G3 H3 f3 h1 h2 h3 d3 => q p ws G3 H3 (f.tr0 f3) (f.a.free h1) h2 h3 d3⟩
theorem ev_callX (ha : EvA K aa env ds) (hr : R ds d) : Ev K (tCallS (spX K R B) E aa) env d := fun σ H H1 st Q q =>
  ha σ H H1 st _ fun vs G H2 f dv => ⟨G, ds, f.r, dv, .inl ⟨d, hr, fun v G3 H3 f3 d3 => q v G3 H3 (f.tr0 f3) d3⟩⟩
theorem eo_callX (ha : EvA K aa env ds) (hr : RL ds xs) : EvO K (tCallS (spXL K RL B) E aa) env xs := fun σ H H1 st Q q =>
  ha σ H H1 st _ fun vs G H2 f dv => ⟨G, ds, f.r, dv, .inl ⟨xs, hr, fun p ws G3 H3 f3 h1 h2 h3 d3 => q p ws G3 H3 (f.tr0 f3) (f.a.free h1) h2 h3 d3⟩⟩
/-- an exception leaves the expression -/
def EvX (K : PySem.W.Frag) (X : WX) (te : TE) (env : List SV) (c : Value) : Prop := ∀ σ H H1, Stt K H H1 σ env → ∀ Q : VK, (∀ G H2, Fr0 H H1 G H2 → X c none σ H2) → te σ H1 Q
def EvXA (K : PySem.W.Frag) (X : WX) (ta : TA) (env : List SV) (c : Value) : Prop := ∀ σ H H1, Stt K H H1 σ env → ∀ Q : List V → Hp → Prop, (∀ G H2, Fr0 H H1 G H2 → X c none σ H2) → ta σ H1 Q
variable {c : Value}
theorem evx_call (ha : EvA K aa env ds) (hb : B ds c) : EvX K X (tCallS (spX K R B) (WE X) aa) env c := fun σ H H1 st Q q =>
  ha σ H H1 st _ fun vs G H2 f dv => ⟨G, ds, f.r, dv, .inr ⟨c, hb, fun G3 H3 f3 => q G3 H3 (f.tr0 f3)⟩⟩
theorem evx_callL (ha : EvA K aa env ds) (hb : B ds c) : EvX K X (tCallS (spXL K RL B) (WE X) aa) env c := fun σ H H1 st Q q =>
  ha σ H H1 st _ fun vs G H2 f dv => ⟨G, ds, f.r, dv, .inr ⟨c, hb, fun G3 H3 f3 => q G3 H3 (f.tr0 f3)⟩⟩
theorem evx_op2 {r : R2} (ha : Ev K ta env d) (hb : EvX K X tb env c) : EvX K X (tOp r ta tb) env c := fun σ H H1 st Q q =>
  ha σ H H1 st _ fun v G H2 f dv => hb σ G H2 (st.mono f) _ fun G3 H3 f3 => q G3 H3 (f.tr0 f3)
theorem evx_op1 {r : R2} (ha : EvX K X ta env c) : EvX K X (tOp r ta tb) env c := fun σ H H1 st Q q => ha σ H H1 st _ q
theorem evx_head {tr : TA} (ha : EvX K X ta env c) : EvXA K X (tCons ta tr) env c := fun σ H H1 st Q q => ha σ H H1 st _ q
theorem evx_tail {tr : TA} (ha : Ev K ta env d) (hr : EvXA K X tr env c) : EvXA K X (tCons ta tr) env c := fun σ H H1 st Q q =>
  ha σ H H1 st _ fun v G H2 f dv => hr σ G H2 (st.mono f) _ fun G3 H3 f3 => q G3 H3 (f.tr0 f3)
theorem evx_cb {r : List V → Hp → VK → Prop} (ha : EvXA K X aa env c) : EvX K X (tCB r aa) env c := fun σ H H1 st Q q => ha σ H H1 st _ q
theorem evx_tup (ha : EvXA K X aa env c) : EvX K X (tTup aa) env c := fun σ H H1 st Q q => ha σ H H1 st _ q
theorem evx_args {sp : Sp} (ha : EvXA K X aa env c) : EvX K X (tCallS sp E aa) env c := fun σ H H1 st Q q => ha σ H H1 st _ q
theorem sx_outD (h : EvX K X te env c) : Sx K X (tDrop te) env (.ex c env) := fun σ H H1 st D q => h σ H H1 st _ fun G H2 f => q σ G H2 (f.mono fun _ z => z.elim) (st.mono f) fun l z => .inl z
theorem sx_outR (h : EvX K X te env c) : Sx K X (tRet te) env (.ex c env) := fun σ H H1 st D q => h σ H H1 st _ fun G H2 f => q σ G H2 (f.mono fun _ z => z.elim) (st.mono f) fun l z => .inl z
theorem sx_outS {g : TG} (h : EvX K X te env c) : Sx K X (tAsg te g) env (.ex c env) := fun σ H H1 st D q => h σ H H1 st _ fun G H2 f => q σ G H2 (f.mono fun _ z => z.elim) (st.mono f) fun l z => .inl z

/-! ### try -/
def Oc.isEx : Oc → Bool
  | .ex _ _ => true
  | _ => false
theorem OcOk.wx {X' : WX} {W : Addr → Prop} {D : Ends} {H H1 : Hp} (h : OcOk K X W D H H1 oc) (e : oc.isEx = false) : OcOk K X' W D H H1 oc := by
  cases oc <;> first | exact h | cases e
theorem sx_try_ok {cl : Value} {tbb : WX → TS} {tss : Addr → Value → Option Addr → TS} (h : ∀ X', Sx K X' (tbb X') env oc) (e : oc.isEx = false) : Sx K X (fun D σ H => tbb (wOnly K cl tss X D) D σ H) env oc := fun σ H H1 st D q =>
  h _ σ H H1 st D (q.wx e)
theorem sx_try_ex {cl c : Value} {tbb : WX → TS} {tss : Addr → Value → Option Addr → TS} (h : ∀ X', Sx K X' (tbb X') env (.ex c env1)) (hm : PySem.W.exmOne K c cl = some true) (hs : ∀ a, Sx K X (tss a c none) env1 oc) : Sx K X (fun D σ H => tbb (wOnly K cl tss X D) D σ H) env oc := fun σ H H1 st D q =>
  h _ σ H H1 st D fun σ' G H2 f st' o => ⟨true, hm, fun _ a _ => hs a σ' G H2 st' D (q.tr f o), fun z => nomatch z⟩
theorem sx_try_by {cl c : Value} {tbb : WX → TS} {tss : Addr → Value → Option Addr → TS} (h : ∀ X', Sx K X' (tbb X') env (.ex c env1)) (hm : PySem.W.exmOne K c cl = some false) : Sx K X (fun D σ H => tbb (wOnly K cl tss X D) D σ H) env (.ex c env1) := fun σ H H1 st D q =>
  h _ σ H H1 st D fun σ' G H2 f st' o => ⟨false, hm, (fun z => nomatch z), fun _ => q σ' G H2 f st' o⟩

/-! ### a def's whole body -/
theorem ow_none {σ : L2.St} (h : ∀ s ∈ env, s.isOwn = false) {l : Addr} (w : Ow σ env l) : False := by
  obtain ⟨i, s, a, b, _⟩ := w
  rw [h s (List.mem_of_getElem? a)] at b
  cases b
theorem stt_start {H H1 : Hp} {N : List Str} {vs : List V} {n : Nat} (s : Same H H1) (dv : DpAll K H vs ds) (hn : N.length - ds.length = n) : Stt K H H1 (L2.start N vs) (ds.map .dat ++ List.replicate n .no) := by
  have e0 : N.length - vs.length = n := by rw [dpa_len dv]; exact hn
  refine ⟨s, ?_, fun i o sv a b => ?_, fun i j s1 s2 l _ b1 _ o1 _ _ => ?_⟩
  · unfold L2.start
    rw [e0, List.length_append, List.length_append, List.length_map, List.length_map, List.length_replicate, List.length_replicate, dpa_len dv]
  · by_cases hi : i < ds.length
    · rw [List.getElem?_append_left (by rw [List.length_map]; exact hi), List.getElem?_map, List.getElem?_eq_getElem hi] at b
      obtain rfl := Option.some.inj b
      obtain ⟨v, e1, e2⟩ := dpa_at dv (List.getElem?_eq_getElem hi)
      unfold L2.start at a
      rw [List.getElem?_append_left (by rw [List.length_map, dpa_len dv]; exact hi), List.getElem?_map, e1] at a
      obtain rfl := Option.some.inj a
      exact ⟨v, rfl, e2⟩
    · rw [List.getElem?_append_right (by rw [List.length_map]; omega)] at b
      obtain ⟨_, rfl⟩ := List.mem_replicate.mp (List.mem_of_getElem? b)
      trivial
  · have m := List.mem_of_getElem? b1
    rcases List.mem_append.mp m with m | m
    · obtain ⟨d, _, rfl⟩ := List.mem_map.mp m; cases o1
    · obtain ⟨_, rfl⟩ := List.mem_replicate.mp m; cases o1
theorem run {H H1 : Hp} {N : List Str} {vs : List V} {n : Nat} {D : Ends} (s : Same H H1) (dv : DpAll K H vs ds) (hn : N.length - ds.length = n) (h : Sx K X t (ds.map .dat ++ List.replicate n .no) oc) (q : OcOk K X (fun _ => False) D H H1 oc) : t D (L2.start N vs) H1 := by
  have st := stt_start (N := N) s dv hn
  refine h _ H H1 st D (q.tr (Fr.refl s) fun p z => (ow_none (fun sv m => ?_) z).elim)
  rcases List.mem_append.mp m with m | m
  · obtain ⟨d, _, rfl⟩ := List.mem_map.mp m; rfl
  · obtain ⟨_, rfl⟩ := List.mem_replicate.mp m; rfl
end
theorem pass0S {X : Cx} {σ : L2.St} {E : XK} : PassesAt CX0 X σ E := fun _ _ _ _ _ _ h => h.elim
end Pf

namespace Pf
open PySem PySem.Spec PyProof.Rows L2

section
variable {X : Cx}
/-! ### sets of whole numbers: a comprehension; set(a tuple) -/
/-- {e for target in source if ..} -/
def tSi (w : World) (wi : TI) (g : TG) (tt : TT) (te : TE) (vs : List Nat) : TE := fun σ H Q => wi σ H fun J G =>
  ∀ D, G D = none → ∃ W : Nat → Nat → Hp → Prop, (∃ k, W 0 k (upd G D (SetO w D (fun _ => false) 0))) ∧
    ∀ i k H, W i k H → (J.stop i H ∧ Q (.ref D) H) ∨ (J.go i H ∧ ∃ Nx : Hp → Prop, (∀ H', Nx H' → ∃ k', k' < k ∧ W (i + 1) k' H') ∧
      ∀ x H', J.yld i H x H' → g x (wipe σ vs) H' fun σ' Ha => wipe σ' vs = wipe σ vs ∧
        tt σ' Ha fun b Hb => if b = true then te σ' Hb fun y Hc => ∃ (z : Int) (S : Int → Bool) (n : Nat), y = .int z ∧ Hc D = some (SetO w D S n) ∧ n + 1 < scanBound ∧
          Nx (upd Hc D (SetO w D (fun j => S j || decide (j = z)) (if S z = true then n else n + 1))) else Nx Hb)
theorem add_si {pins : List (Addr × Obj)} {σ : L2.St} {H : Hp} {s : Shared} {E : Value → Shared → Prop} {D : Addr} {S : Int → Bool} {n : Nat} {z : Int} {tk : Tok} {Q : Value → Shared → Prop}
    (I : Inv X pins σ H s) (hD : H D = some (SetO X.w D S n)) (room : n + 1 < scanBound)
    (k : ∀ s', Inv X pins σ (upd H D (SetO X.w D (fun j => S j || decide (j = z)) (if S z = true then n else n + 1))) s' → Q .none s') :
    wpAny (model X.prog X.w) X.A (call (.builtin "set.add") [.ref D, .int z tk]) Q E s :=
  setR_add (setO_get I hD) room fun h' same R => by
    obtain ⟨o, _, _, _, eo, _⟩ := id R
    exact k _ (I.write (e := D) (t' := s.toks + 1) (by rw [hD]; trivial) (.inl rfl) (fun b u nb e => (same.2 b nb).trans e) ⟨o, eo⟩ (setO_new R))
set_option maxHeartbeats 4000000 in
theorem pe_si {elt tg iter : Expr} {ifs : List Expr} {scope : Scope} {own : List (PySem.Str × Nat)} {pos : Pos} {wi : TI} {g : TG} {tt : TT} {te : TE}
    (hc : X.calm = true) (hN : X.N.Nodup) (src : PI X tg iter wi) (bk : BlkOk X.N X.env.scope scope own)
    (pgs : ∀ (s : Shared) (H : Hp) (C : Addr) (cl : List (PySem.Str × Addr)) (fp : List Addr), PG (X.blk s H scope (compEnvC scope cl C X.env) fp) tg g)
    (pts : ∀ (s : Shared) (H : Hp) (C : Addr) (cl : List (PySem.Str × Addr)) (fp : List Addr), PTs (X.blk s H scope (compEnvC scope cl C X.env) fp) ifs tt)
    (pes : ∀ (s : Shared) (H : Hp) (C : Addr) (cl : List (PySem.Str × Addr)) (fp : List Addr), PE (X.blk s H scope (compEnvC scope cl C X.env) fp) elt te)
    (nofold : ∀ x, foldedSetIterable iter X.env x = pure x := by intro _; rfl) :
    PE X (.SetComp elt [⟨tg, iter, ifs, 0⟩] scope pos) (tSi X.w wi g tt te (own.map (·.2))) := by
  refine ⟨fun pins s σ H Q I rd => ?_⟩
  rw [PpSet.eval_SetComp]
  have caught : ∀ y ∈ scope.names, y.2 = .free → ∃ c, X.env.cells.lookup y.1 = some c := fun y my ey =>
    (bk.free y my ey).elim (fun z => I.ok.has _ (.inl z)) fun z => I.ok.has _ (.inr z)
  refine wpAny_comprehension_free (use := none) rfl nofold (closure_ok caught) bk.kind (fun y my ey => by rw [bk.uniq y my, ey]) (thn (src.run pins s σ H _ I rd) fun v0 s1 r1 => thn r1 fun v1 s2 r2 => ?_)
  obtain ⟨it, fp, tn, J, Ha, rfl, Ia, Tn, tn0, fpa, more⟩ := r2
  refine PpSet.newSet_ok (newEnv_comp ?_)
  generalize eD : s2.heap.objs.size = D
  obtain ⟨W, ⟨k0, w0⟩, turns⟩ := more D (Ia.hok.fresh (Nat.le_of_eq eD))
  generalize e3 : ({ s2 with heap := s2.heap.push { cls := .type "set", dict := none, data := .set #[] 0 (.fresh 0 0 (!X.w.params.followText "set-order")) } } : Shared) = s3
  have Ib : Inv X pins σ (upd Ha D (SetO X.w D (fun _ => false) 0)) s3 := by
    subst e3
    refine Ia.laid (t' := s2.toks) (fun b o q => Heap.get?_push_of_some _ q) (Nat.le_of_eq eD) ?_
    subst eD
    exact setO_new (setR_fresh X.w)
  have q3 : s3.heap = s2.heap.push { cls := .type "set", dict := none, data := .set #[] 0 (.fresh 0 0 (!X.w.params.followText "set-order")) } := by subst e3; rfl
  have young : ∀ b ∈ fp, b < s2.heap.objs.size := fun b mb => by
    obtain ⟨o, eo, _⟩ := Tn.obj _ _ tn0 b mb
    exact Heap.lt_size eo
  have fpb : ∀ b ∈ fp, FpOk X pins (upd Ha D (SetO X.w D (fun _ => false) 0)) b ∧ b < s3.heap.objs.size := fun b mb => by
    have lt := young b mb
    have nb : b ≠ D := by rw [← eD]; exact Nat.ne_of_lt lt
    exact ⟨⟨by rw [upd_ne nb]; exact (fpa b mb).1, (fpa b mb).2⟩, by rw [q3, Heap.size_push]; exact Nat.lt_succ_of_lt lt⟩
  have tn3 : tn 0 s3.heap := Tn.keep _ _ _ tn0 fun b _ o eo => by rw [q3]; exact Heap.get?_push_of_some _ eo
  have Ic := block_start Ib bk hN fpb
  have kg := pgs s3 (upd Ha D (SetO X.w D (fun _ => false) 0)) s3.heap.objs.size (cellsFrom (s3.heap.objs.size + 1) scope.names (cloFrom X.env.cells scope.names [])) fp
  have kt := pts s3 (upd Ha D (SetO X.w D (fun _ => false) 0)) s3.heap.objs.size (cellsFrom (s3.heap.objs.size + 1) scope.names (cloFrom X.env.cells scope.names [])) fp
  have ke := pes s3 (upd Ha D (SetO X.w D (fun _ => false) 0)) s3.heap.objs.size (cellsFrom (s3.heap.objs.size + 1) scope.names (cloFrom X.env.cells scope.names [])) fp
  have nfp : ∀ b ∈ fp, (upd Ha D (SetO X.w D (fun _ => false) 0)) b = none := fun b mb => (fpb b mb).1.1
  show codeAny _ _ (.compStart (.SetComp elt [⟨tg, iter, ifs, 0⟩] scope pos) 0 (.ref it) (.ref D) (compEnvC scope (cellsFrom (s3.heap.objs.size + 1) scope.names (cloFrom X.env.cells scope.names [])) s3.heap.objs.size X.env))
    (compPost (model X.prog X.w) X.A X.xe none (EP X pins σ Q) (.ref D) s3.heap.objs.size) { s3 with heap := pushCells (s3.heap.push { cls := .type "dict", data := .dict #[] }) scope.names }
  generalize ec : compEnvC scope (cellsFrom (s3.heap.objs.size + 1) scope.names (cloFrom X.env.cells scope.names [])) s3.heap.objs.size X.env = cenv at Ic kg kt ke ⊢
  have locs : cenv.locals = s3.heap.objs.size := by subst ec; rfl
  generalize eH : upd Ha D (SetO X.w D (fun _ => false) 0) = Hs at Ib Ic kg kt ke w0 nfp fpb
  generalize e4 : ({ s3 with heap := pushCells (s3.heap.push { cls := .type "dict", data := .dict #[] }) scope.names } : Shared) = s4 at Ic ⊢
  have tn4 : tn 0 s4.heap := Tn.keep _ _ _ tn3 fun b _ o eo => by subst e4; exact pushCells_keeps _ _ _ _ (Heap.get?_push_of_some _ eo)
  have still : ∀ {τ : L2.St} {Hx : Hp} {sx : Shared}, Inv (X.blk s3 Hs scope cenv fp) [] τ Hx sx → (∀ b ∈ fp, Hx b = none) → ∀ b ∈ fp, FpOk (X.blk s3 Hs scope cenv fp) [] Hx b := fun {τ Hx sx} Ix nx b mb =>
    ⟨nx b mb, (Ix.ok.exf b mb).1, Ix.ok.exfs b mb, .inl mb, (fun x c ex => (Ix.ok.exf b mb).2 x c ex), fun p mp => absurd (show p ∈ ([] : List (Addr × Obj)) ++ [] from mp) (by simp)⟩
  have walk : codeAny (model X.prog X.w) X.A (.compLoop (.SetComp elt [⟨tg, iter, ifs, 0⟩] scope pos) 0 (.ref it) (.ref D) cenv) (compPost (model X.prog X.w) X.A X.xe none (EP X pins σ Q) (.ref D) s3.heap.objs.size) s4 := by
    refine PpSet.compLoopS_any (fun k sx => ∃ i Hx, Inv (X.blk s3 Hs scope cenv fp) [] (wipe σ (own.map (·.2))) Hx sx ∧ tn i sx.heap ∧ (∀ b ∈ fp, Hx b = none) ∧ W i k Hx) ?_ k0 ⟨0, Hs, Ic, tn4, nfp, w0⟩
    rintro k s5 ⟨i, H5, I5, tn5, n5, w5⟩
    rcases turns i k H5 w5 with ⟨stop, q⟩ | ⟨go, Nx, down, step⟩
    · refine thnF (Tn.done (X.blk s3 Hs scope cenv fp) rfl rfl rfl hc i [] s5 _ H5 (fun _ _ => False) I5 (still I5 n5) tn5 stop) fun r s6 ⟨er, I6⟩ => ?_
      subst er
      have I7 : Inv X pins σ H5 s6 := Ib.call' (ch := fp) I6.os I6.base I6.hok I6.bare fun b mb => ⟨(fpb b mb).1.2.2.2.1, (fpb b mb).1.2.1, (fpb b mb).1.2.2.2.2.1, (fpb b mb).1.2.2.2.2.2⟩
      have gone : H5 s3.heap.objs.size = none := by
        have z : H5 cenv.locals = none := I6.free
        rw [locs] at z; exact z
      obtain ⟨mm, ns, _⟩ := I6.loc
      have ns : s6.heap.Ns cenv.locals mm := ns
      rw [locs] at ns
      obtain ⟨f0, f1, f2, f3, f4, f5⟩ := Ib.fpOk (Nat.le_refl _) gone
      exact ⟨mm, ns, fun h'' sb => ⟨.ref D, H5, I7.turned (t' := s6.toks) (fun b o nb eo => (sb.2 b nb).trans eo) f0 f1 f3 f4 f5, rfl, q⟩⟩
    · refine thnF (Tn.item (X.blk s3 Hs scope cenv fp) rfl rfl rfl hc i [] s5 _ H5 (fun _ _ => False) I5 (still I5 n5) tn5 go) fun r s6 ⟨u, er, r6⟩ => ?_
      subst er
      refine thnF r6 fun _ s7 ⟨x, H7, I7, r7, y7, tn7, n7⟩ => ?_
      refine thnF (kg.run _ s7 _ H7 x u _ (I7.pinned (still I7 n7) (Tn.obj _ _ tn7)) r7 (step x H7 y7)) fun _ s8 ⟨σ8, H8, I8, ew, q8⟩ => ?_
      refine thnF (kt.run _ s8 σ8 H8 _ I8 q8) fun b s9 ⟨H9, I9, q9⟩ => ?_
      have back : ∀ {sx : Shared} {Hx : Hp}, Inv (X.blk s3 Hs scope cenv fp) ([] ++ pinsAt fp s7.heap) σ8 Hx sx → Nx Hx → ∃ k', k' < k ∧ ∃ i Hx, Inv (X.blk s3 Hs scope cenv fp) [] (wipe σ (own.map (·.2))) Hx sx ∧ tn i sx.heap ∧ (∀ b ∈ fp, Hx b = none) ∧ W i k' Hx := fun {sx Hx} Ix nx => by
        obtain ⟨k', lt, w'⟩ := down Hx nx
        have pinned : ∀ b ∈ fp, ∀ o, s7.heap.get? b = some o → sx.heap.get? b = some o ∧ Hx b = none := fun b mb o eo =>
          let z := Ix.pin (b, o) (List.mem_append_right _ (List.mem_append_right _ (mem_pinsAt mb eo)))
          ⟨z.1, z.2.1⟩
        have len : (wipe σ (own.map (·.2))).length = σ8.length := by rw [← ew, wipe_length]
        refine ⟨k', lt, i + 1, Hx, (Ix.unpinned (pins := [])).weak len (fun j v ej => ?_), Tn.keep _ _ _ tn7 fun b mb o eo => (pinned b mb o eo).1, fun b mb => ?_, w'⟩
        · rw [← ew] at ej; exact (wipe_some ej).1
        · obtain ⟨o, eo, _⟩ := Tn.obj _ _ tn7 b mb
          exact (pinned b mb o eo).2
      cases b with
      | false => exact back I9 q9
      | true =>
        refine thnF (ke.run _ s9 σ8 H9 _ I9 q9) fun uv s10 ⟨yv, H10, I10, r10, z, S0, m0, ey, hD10, room, nx⟩ => ?_
        subst ey
        obtain ⟨tk, rfl⟩ := r10
        exact add_si (X := X.blk s3 Hs scope cenv fp) I10 hD10 room fun s11 I11 => back I11 nx
  exact PpSet.codeAny_compStart_set walk (Tn.self X.A 0 _ _ _ tn4 walk)
/-- set(a tuple of whole numbers) -/
def rSetT (K : PySem.W.Frag) (w : World) : List V → Hp → VK → Prop := fun vs H Q => ∃ (p : Addr) (ns : List Int), vs = [.ref p] ∧ SqT K H p (ns.map V.int) ∧ ns.length ≤ 1000 ∧
  ∀ (q : Addr) (c : Nat), H q = none → c ≤ ns.length → Q (.ref q) (upd H q (SetO w q (fun j => decide (j ∈ ns)) c))
theorem ints_are : ∀ {ns : List Int} {us : List Value}, Vals (ns.map V.int) us → IntsAre us ns
  | [], _, .nil => .nil
  | n :: r, _, .cons ⟨t, e⟩ b => by subst e; exact .cons n t (ints_are b)
theorem cr_setT (hc : X.calm = true) : CallR X (.type "set") (rSetT X.K X.w) := by
  intro pins s σ H vs us Q I rv rd
  obtain ⟨p, ns, rfl, ht, hz, q⟩ := rd
  rw [Vals.ref1 rv]
  obtain ⟨its, r, tp, _⟩ := I.tuple ht
  have bound : ns.length + 1 < scanBound := Nat.lt_of_le_of_lt (Nat.succ_le_succ hz) (by decide)
  refine call_set_tupI ns (I.ok.hd hc) tp (by exact ints_are r) bound fun h' tk c R hcn keep => ?_
  exact ⟨.ref _, _, I.laid (t' := tk) keep (Nat.le_refl _) (setO_new R), rfl, q _ c (I.hok.fresh (Nat.le_refl _)) hcn⟩
end

section
variable {K : PySem.W.Frag} {w : World} {X : WX} {env env1 : List SV} {ta tb te tl : TE} {tt : TT} {d e : PyData} {xs ys ds : List PyData} {S : Int → Bool} {m : Nat}
/-- te gives a set of whole numbers, of at most m -/
def EvS (K : PySem.W.Frag) (w : World) (te : TE) (env : List SV) (S : Int → Bool) (m : Nat) : Prop := ∀ σ H H1, Stt K H H1 σ env → ∀ Q : VK, (∀ p n G H2, Fr0 H H1 G H2 → H2 p = some (SetO w p S n) → n ≤ m → Q (.ref p) H2) → te σ H1 Q
theorem es_setT {ns : List Int} (ha : Ev K ta env (.tuple (ns.map .int))) (hz : ns.length ≤ 1000) : EvS K w (tCB (rSetT K w) (tCons ta tNil)) env (fun j => decide (j ∈ ns)) ns.length := fun σ H H1 st Q q =>
  ha σ H H1 st _ fun v G H2 f d => by
    cases d with
    | @tup a vs _ ht hd =>
      have e := dpa_ints hd
      subst e
      exact ⟨a, ns, rfl, sqt f.r ht, hz, fun p c hp hcn => q p c G _ (f.tr0 (Fr.hid f.r hp)) upd_same hcn⟩
/-- two rising lists of the same members -/
theorem rising_one : ∀ {a b : List Int}, a.Pairwise (· < ·) → b.Pairwise (· < ·) → (∀ k, k ∈ a ↔ k ∈ b) → a = b
  | [], [], _, _, _ => rfl
  | [], y :: b, _, _, h => by have := (h y).2 List.mem_cons_self; cases this
  | x :: a, [], _, _, h => by have := (h x).1 List.mem_cons_self; cases this
  | x :: a, y :: b, ha, hb, h => by
    have ha' := List.pairwise_cons.mp ha
    have hb' := List.pairwise_cons.mp hb
    have exy : x = y := by
      rcases List.mem_cons.mp ((h x).1 List.mem_cons_self) with z | z
      · exact z
      · rcases List.mem_cons.mp ((h y).2 List.mem_cons_self) with u | u
        · exact u.symm
        · have := hb'.1 x z; have := ha'.1 y u; omega
    subst exy
    refine congrArg (x :: ·) (rising_one ha'.2 hb'.2 fun k => ⟨fun z => ?_, fun z => ?_⟩)
    · rcases List.mem_cons.mp ((h k).1 (List.mem_cons_of_mem _ z)) with u | u
      · have := ha'.1 k z; omega
      · exact u
    · rcases List.mem_cons.mp ((h k).2 (List.mem_cons_of_mem _ z)) with u | u
      · have := hb'.1 k z; omega
      · exact u
theorem eo_sortedS {L : List Int} (ha : EvS K w ta env S m) (hm : m < 64) (hp : L.Pairwise (· < ·)) (hL : ∀ k, k ∈ L ↔ S k = true) : EvO K (tCB (rSortedSet w) (tCons ta tNil)) env (L.map .int) := fun σ H H1 st Q q =>
  ha σ H H1 st _ fun p n G H2 f h2 hn => ⟨p, S, n, rfl, h2, by omega, fun ns r h3 h4 _ hr => by
    have e : ns = L := rising_one h3 hp fun k => (h4 k).trans (hL k).symm
    subst e
    exact q r _ G _ (f.tr0 (Fr.hid f.r hr)) (f.a.free hr) (f.r.free hr) upd_same (dpa_of_ints ns)⟩
/-- what a set comprehension has found behind some turns -/
def Fd (K : PySem.W.Frag) (w : World) (G0 H2 : Hp) (D : Addr) (ns : List Int) (H' : Hp) : Prop := ∃ G S n, Fr (fun p => p = D) G0 H2 G H' ∧ G D = none ∧ H' D = some (SetO w D S n) ∧ n ≤ ns.length ∧ ∀ k, S k = decide (k ∈ ns)
theorem take_next {α β : Type} {f : α → Bool} {v : α → β} {xs : List α} {i : Nat} {x : α} (h : xs[i]? = some x) : ((xs.take (i + 1)).filter f).map v = ((xs.take i).filter f).map v ++ (if f x = true then [v x] else []) := by
  rw [List.take_add_one, h, List.filter_append, List.map_append]
  show _ ++ List.map v (List.filter f [x]) = _
  cases e : f x with
  | true => rw [List.filter_cons, if_pos e]; rfl
  | false => rw [List.filter_cons, if_neg (by rw [e]; decide)]; rfl
theorem fd_turn {H2 H' G G0 : Hp} {D : Addr} {S : Int → Bool} {n : Nat} {ns : List Int} {z₀ : Int} {b : Bool} {σ2 : L2.St} (f : Fr (fun p => p = D) G0 H2 G H') (hG : G D = none) (ha : H' D = some (SetO w D S n)) (hn : n ≤ ns.length) (hS : ∀ k, S k = decide (k ∈ ns)) (hz : ns.length < 1000)
    (st : Stt K G H' σ2 env1) (ht : EvT K tt env1 b) (he : b = true → Ev K te env1 (.int z₀)) :
    tt σ2 H' fun k H3 => if k = true then te σ2 H3 fun y H4 => ∃ (z : Int) (S : Int → Bool) (n : Nat), y = .int z ∧ H4 D = some (SetO w D S n) ∧ n + 1 < scanBound ∧ Fd K w G0 H2 D (ns ++ (if b = true then [z₀] else [])) (upd H4 D (SetO w D (fun j => S j || decide (j = z)) (if S z = true then n else n + 1))) else Fd K w G0 H2 D (ns ++ (if b = true then [z₀] else [])) H3 := by
  refine ht σ2 G H' st _ fun G1 H3 f1 => ?_
  have D1 : G1 D = none := f1.n D (fun z => z) hG (by rw [ha]; exact fun z => nomatch z)
  cases b with
  | true =>
    show te σ2 H3 _
    refine he rfl σ2 G1 H3 (st.mono f1) _ fun y G2 H4 f2 d2 => ?_
    cases d2
    have a3 := f1.a _ _ ha
    have D2 : G2 D = none := f2.n D (fun z => z) D1 (by rw [a3]; exact fun z => nomatch z)
    have f3 := (f.tr0 f1).tr0 f2
    refine ⟨z₀, S, n, rfl, f2.a _ _ a3, Nat.lt_of_lt_of_le (by omega : n + 1 < 1002) (by decide), G2, _, _, ⟨f3.g, fun p o e => ?_, fun p o nw e => ?_, f3.n, fun p e => f3.m p (upd_none e)⟩, D2, upd_same, ?_, fun k => ?_⟩
    · rw [upd_ne (ne_of_none e D2)]; exact f3.r p o e
    · rw [upd_ne (show p ≠ D from nw)]; exact f3.s p o nw e
    · show _ ≤ (ns ++ [z₀]).length
      rw [List.length_append]
      split <;> (simp only [List.length_cons, List.length_nil]; omega)
    · show (S k || decide (k = z₀)) = decide (k ∈ ns ++ [z₀])
      rw [hS k, Bool.eq_iff_iff]
      simp only [Bool.or_eq_true, decide_eq_true_eq, List.mem_append, List.mem_singleton]
  | false =>
    show Fd K w G0 H2 D (ns ++ []) H3
    rw [List.append_nil]
    exact ⟨G1, S, n, f.tr0 f1, D1, f1.a _ _ ha, hn, hS⟩
theorem es_si {α : Type} (xs : List α) (en : α → PyData) (f : α → Bool) (v : α → Int) {g : TG} {vs : List Nat} (h : Ev K tl env (.list (xs.map en))) (hz : xs.length < 1000) (turn : ∀ x ∈ xs, ∃ env', Tgw K vs g (wipeE env vs) (en x) env' ∧ EvT K tt env' (f x) ∧ (f x = true → Ev K te env' (.int (v x)))) :
    EvS K w (tSi w (iList K tl) g tt te vs) env (fun k => decide (k ∈ (xs.filter f).map v)) xs.length := fun σ H H1 st Q q => by
  refine h σ H H1 st _ fun v0 G0 H2 f0 dv => ?_
  cases dv with
  | @lst a as _ hl hd =>
    refine ⟨a, rfl, ⟨as, f0.r.seq hl⟩, fun D hD => ?_⟩
    have st0 := st.mono f0
    have nD : ∀ l, Ow (L2.wipe σ vs) (wipeE env vs) l → ¬ l = D := fun l z e => by
      have := (st0.owned (Ow.wipe z)).2
      exact this (by rw [e]; exact hD)
    have hlen : as.length = xs.length := by rw [dpa_len hd, List.length_map]
    have short : ∀ i, (((xs.take i).filter f).map v).length ≤ xs.length := fun i => by
      rw [List.length_map]
      exact Nat.le_trans (List.length_filter_le _ _) (by rw [List.length_take]; omega)
    refine ⟨fun i k H' => k = xs.length - i ∧ i ≤ xs.length ∧ Fd K w G0 H2 D (((xs.take i).filter f).map v) H', ⟨xs.length, rfl, Nat.zero_le _, G0, _, 0, Fr.hid f0.r hD, f0.r.free hD, upd_same, Nat.zero_le _, fun k => by simp⟩, ?_⟩
    rintro i k H' ⟨rfl, hi, G, S, n, f1, hG, ha, hn, hS⟩
    have hq : SqL K H' a as := f1.r.seq (f1.g.seq hl)
    by_cases hlt : i < xs.length
    · have hia : i < as.length := by omega
      refine .inr ⟨⟨as, as[i], hq, List.getElem?_eq_getElem hia⟩, Fd K w G0 H2 D (((xs.take (i + 1)).filter f).map v), fun Hx p => ⟨xs.length - (i + 1), by omega, rfl, hlt, p⟩, fun x Hx y => ?_⟩
      obtain ⟨rfl, yx⟩ := y
      obtain ⟨d, e1, e2⟩ := dpa_get hd (yx as hq)
      rw [List.getElem?_map, List.getElem?_eq_getElem hlt] at e1
      obtain rfl := Option.some.inj e1
      obtain ⟨env', tg, ht, he⟩ := turn xs[i] (List.getElem_mem hlt)
      refine tg _ G Hx x ((st0.wipe vs).monoW f1 nD) (dm f1.g e2) _ fun σ' st' o hw => ⟨?_, ?_⟩
      · rw [hw]; exact wipe_wipe fun _ z => z
      · rw [take_next (List.getElem?_eq_getElem hlt)]
        exact fd_turn f1 hG ha hn hS (Nat.lt_of_le_of_lt (short i) hz) st' ht he
    · have ei : i = xs.length := by omega
      subst ei
      refine .inl ⟨⟨as, hq, by omega⟩, ?_⟩
      rw [List.take_length] at hn hS
      have ff : Fr0 H H1 G H' := f0.trans f1 fun p z => .inr (by rw [z]; exact f0.a.free hD)
      have eS : S = fun k => decide (k ∈ (xs.filter f).map v) := funext hS
      subst eS
      refine q D n G H' ff ha (Nat.le_trans hn ?_)
      have := short xs.length
      rwa [List.take_length] at this
end
end Pf

namespace Pf
open PySem PySem.Spec PyProof.Rows L2

section
variable {K : PySem.W.Frag} {X : WX} {env env1 env2 : List SV} {ta tb tc te tl th : TE} {t u ts : TS} {tt : TT} {d e : PyData} {i j : Int} {xs ys ds : List PyData} {oc : Oc}
/-! ### slices of lists -/
theorem ep_no : EvP K tNoPart env none := fun σ H H1 st Q q => q H H1 (Fr.refl st.e)
theorem ep_at (h : Ev K te env (.int i)) : EvP K (tPart te) env (some i) := fun σ H H1 st Q q => h σ H H1 st _ fun v G H2 f d => by cases d; exact ⟨i, rfl, q G H2 f⟩
def cutD (xs : List PyData) (lo hi : Option Int) : List PyData := (xs.drop (HT.sIx xs.length 0 lo)).take (HT.sIx xs.length xs.length hi - HT.sIx xs.length 0 lo)
theorem eo_slice {a b : TO} {lo hi : Option Int} (h : Ev K te env (.list xs)) (ha : EvP K a env lo) (hb : EvP K b env hi) : EvO K (tSl (rSlL K) te a b) env (cutD xs lo hi) := fun σ H H1 st Q q =>
  h σ H H1 st _ fun v G H2 f d => ha σ G H2 (st.mono f) _ fun G2 H3 f2 => hb σ G2 H3 ((st.mono f).mono f2) _ fun G3 H4 f3 => by
    cases d with
    | @lst a vs _ hl hd =>
      have ff := (f.tr0 f2).tr0 f3
      refine ⟨a, vs, rfl, f3.r.seq ((f2.g.trans f3.g).seq hl), fun p hp => ?_⟩
      refine q p _ G3 _ (ff.tr0 (Fr.hid f3.r hp)) (ff.a.free hp) (f3.r.free hp) upd_same ?_
      unfold cutV cutD
      rw [dpa_len hd]
      exact dpa_take _ (dpa_drop _ (dms (f2.g.trans f3.g) hd))
/-! ### in -/
def flatD : PyData → Bool
  | .none => true
  | .int _ => true
  | .str _ => true
  | _ => false
def eqF : PyData → PyData → Bool
  | .none, .none => true
  | .int i, .int j => decide (i = j)
  | .str x, .str y => decide (x = y)
  | _, _ => false
theorem flat_dp {H : Hp} {v : V} (h : Dp K H v d) (f : flatD d = true) : flatV v = true := by cases h <;> first | rfl | exact absurd f Bool.false_ne_true
theorem eqf_dp {H : Hp} {v w : V} (h : Dp K H v d) (k : Dp K H w e) (f : flatD d = true) (g : flatD e = true) : eqV v w = eqF d e := by
  cases h <;> cases k <;> first
    | exact absurd f Bool.false_ne_true
    | exact absurd g Bool.false_ne_true
    | rfl
    | (show (_ == _) = decide (_ = _); rw [Bool.eq_iff_iff]; simp)
theorem in_dp {H : Hp} {v : V} : ∀ {vs : List V} {ds : List PyData}, Dp K H v d → DpAll K H vs ds → flatD d = true → ds.all flatD = true → vs.all flatV = true ∧ inV v vs = ds.any fun z => eqF z d
  | _, _, _, .nil, _, _ => ⟨rfl, rfl⟩
  | _, _, h, .cons a b, f, g => by
    rw [List.all_cons, Bool.and_eq_true] at g
    obtain ⟨e1, e2⟩ := in_dp h b f g.2
    refine ⟨?_, ?_⟩
    · rw [List.all_cons, flat_dp a g.1, e1]; rfl
    · unfold inV at e2 ⊢
      rw [List.any_cons, List.any_cons, e2, eqf_dp a h g.1 f]
theorem ev_inT (ha : Ev K ta env d) (hb : Ev K tb env (.tuple ds)) (f : flatD d = true) (g : ds.all flatD = true) : Ev K (tOp (rIn K false) ta tb) env (.bool (ds.any fun z => eqF z d)) :=
  ev_op ha hb fun x y H H1 Q s d1 d2 q => by
    cases d2 with
    | tup hl hd =>
      obtain ⟨e1, e2⟩ := in_dp d1 hd f g
      refine ⟨_, _, rfl, .inr (sqt s hl), flat_dp d1 f, e1, ?_⟩
      show Q (.bl (inV x _)) H1
      rw [e2]; exact q _ H H1 (Fr.refl s) (.bl _)
theorem ev_inL (ha : Ev K ta env d) (hb : Ev K tb env (.list ds)) (f : flatD d = true) (g : ds.all flatD = true) : Ev K (tOp (rIn K false) ta tb) env (.bool (ds.any fun z => eqF z d)) :=
  ev_op ha hb fun x y H H1 Q s d1 d2 q => by
    cases d2 with
    | lst hl hd =>
      obtain ⟨e1, e2⟩ := in_dp d1 hd f g
      refine ⟨_, _, rfl, .inl (s.seq hl), flat_dp d1 f, e1, ?_⟩
      show Q (.bl (inV x _)) H1
      rw [e2]; exact q _ H H1 (Fr.refl s) (.bl _)
theorem ev_niT (ha : Ev K ta env d) (hb : Ev K tb env (.tuple ds)) (f : flatD d = true) (g : ds.all flatD = true) : Ev K (tOp (rIn K true) ta tb) env (.bool (!ds.any fun z => eqF z d)) :=
  ev_op ha hb fun x y H H1 Q s d1 d2 q => by
    cases d2 with
    | tup hl hd =>
      obtain ⟨e1, e2⟩ := in_dp d1 hd f g
      refine ⟨_, _, rfl, .inr (sqt s hl), flat_dp d1 f, e1, ?_⟩
      show Q (.bl (!inV x _)) H1
      rw [e2]; exact q _ H H1 (Fr.refl s) (.bl _)
theorem ev_niL (ha : Ev K ta env d) (hb : Ev K tb env (.list ds)) (f : flatD d = true) (g : ds.all flatD = true) : Ev K (tOp (rIn K true) ta tb) env (.bool (!ds.any fun z => eqF z d)) :=
  ev_op ha hb fun x y H H1 Q s d1 d2 q => by
    cases d2 with
    | lst hl hd =>
      obtain ⟨e1, e2⟩ := in_dp d1 hd f g
      refine ⟨_, _, rfl, .inl (s.seq hl), flat_dp d1 f, e1, ?_⟩
      show Q (.bl (!inV x _)) H1
      rw [e2]; exact q _ H H1 (Fr.refl s) (.bl _)
/-- data in a list of data -/
theorem ev_inD (ha : Ev K ta env d) (hb : Ev K tb env (.list ds)) (f : SeqAt.shaped d = true) (g : SeqAt.shaped (.list ds) = true) : Ev K (tOp (rInD K) ta tb) env (.bool (ds.any fun z => PyData.eqv z d)) :=
  ev_op ha hb fun x y H H1 Q s d1 d2 q => ⟨d, ds, dm s d1, dm s d2, f, g, q _ H H1 (Fr.refl s) (.bl _)⟩
/-- tuple + tuple -/
theorem ev_catT (ha : Ev K ta env (.tuple xs)) (hb : Ev K tb env (.tuple ys)) (hl : xs.length + ys.length ≤ 100000) : Ev K (tOp (rCatA K) ta tb) env (.tuple (xs ++ ys)) :=
  ev_op ha hb fun x y H H1 Q s d1 d2 q => by
    cases d1 with
    | @tup a vs _ l1 h1 =>
      cases d2 with
      | @tup b ws _ l2 h2 =>
        refine ⟨a, b, vs, ws, rfl, rfl, sqt s l1, sqt s l2, sz_ok (by rw [dpa_len h1, dpa_len h2]; exact hl), fun e => ?_, fun _ e => ?_, fun _ _ p hp => ?_⟩
        · subst e
          cases h1
          exact q _ H H1 (Fr.refl s) (.tup l2 h2)
        · subst e
          cases h2
          rw [List.append_nil] at q
          exact q _ H H1 (Fr.refl s) (.tup l1 h1)
        · have n : Fr0 H H1 (upd H p (.tup (vs ++ ws))) (upd H1 p (.tup (vs ++ ws))) := Fr.new s hp
          exact q _ _ _ n (.tup (.inl (.inl upd_same)) (dms n.g (dpa_app h1 h2)))
/-! ### for over a tuple -/
theorem sx_forT {g : TG} (h : Ev K tl env (.tuple ds)) (Inv : Nat → List SV) (h0 : Inv 0 = env) (go : ∀ (i : Nat) (d : PyData), ds[i]? = some d → ∃ env', Tg K g (Inv i) d env' ∧ Go K X t env' (Inv (i + 1))) : Sx K X (tFor (iTup K tl) g t) env (.nx (Inv ds.length)) := fun σ H H1 st D q => by
  refine h σ H H1 st _ fun v G0 H2 f dv => ?_
  cases dv with
  | @tup a vs _ hl hd =>
    have f' : Fr (Ow σ env) H H1 G0 H2 := f.mono fun _ z => z.elim
    have stay : ∀ {G H' : Hp}, Fr (Ow σ env) G0 H2 G H' → SqT K H' a vs := fun {G H'} f2 => sqt f2.r (sqt f2.g hl)
    refine ⟨a, rfl, ⟨vs, sqt f.r hl⟩, for_tup (K := K) (a := a) (xs := vs) (Pt K (Ow σ env) G0 H2 Inv) ⟨G0, Fr.refl f.r, by rw [h0]; exact st.mono f, fun l z => .inl (by rw [h0] at z; exact z)⟩ (fun i σ' H' _ p => ?_) (fun i x σ' H' hi p => ?_) (fun σ' H' p => ?_)⟩
    · obtain ⟨G, f2, _, _⟩ := p
      exact stay f2
    · obtain ⟨G, f2, st2, ow⟩ := p
      obtain ⟨d, e1, e2⟩ := dpa_get hd hi
      obtain ⟨env', tg, g1⟩ := go i d e1
      refine tg σ' G H' x st2 (dm f2.g e2) _ fun σ2 st3 o3 => ?_
      have ow3 : ∀ l, Ow σ2 env' l → Ow σ env l ∨ H2 l = none := fun l z => ow l (o3 l z)
      have nx : ∀ σ3 G3 H3, Fr (Ow σ2 env') G H' G3 H3 → Stt K G3 H3 σ3 (Inv (i + 1)) → (∀ l, Ow σ3 (Inv (i + 1)) l → Ow σ2 env' l ∨ H' l = none) → Pt K (Ow σ env) G0 H2 Inv (i + 1) σ3 H3 := fun σ3 G3 H3 f3 st4 o4 =>
        ⟨G3, f2.trans f3 ow3, st4, fun l z => (o4 l z).elim (ow3 l) fun z => .inr (f2.m l z)⟩
      rcases g1 with w | w
      · exact w σ2 G H' st3 _ nx
      · exact w σ2 G H' st3 _ nx
    · obtain ⟨G, f2, st2, ow⟩ := p
      rw [dpa_len hd] at st2 ow
      exact q σ' G H' (f'.trans f2 fun l z => .inl z) st2 fun l z => (ow l z).elim .inl fun z => .inr (f.m l z)
/-! ### try .. except X as n -/
theorem sx_tryas_ok {cl : Value} {n : Nat} {tbb : WX → TS} {tss : Addr → Value → Option Addr → TS} (h : ∀ X', Sx K X' (tbb X') env oc) (e : oc.isEx = false) : Sx K X (fun D σ H => tbb (wAs K cl n tss X D) D σ H) env oc := fun σ H H1 st D q =>
  h _ σ H H1 st D (q.wx e)
/-- the suite gives data back; its own name holds the exception -/
theorem sx_tryas_ret {cl c : Value} {n : Nat} {tbb : WX → TS} {tss : Addr → Value → Option Addr → TS} (h : ∀ X', Sx K X' (tbb X') env (.ex c env1)) (hm : PySem.W.exmOne K c cl = some true)
    (hs : ∀ a σ G H2, Stt K G H2 σ env1 → H2 a = none → ∀ (D : Ends), (∀ v G3 H3, Fr0 G H2 G3 H3 → Dp K G3 v d → D.rt v H3) → tss a c none D (σ.set n (some (.ref a))) H2) : Sx K X (fun D σ H => tbb (wAs K cl n tss X D) D σ H) env (.rt d) := fun σ H H1 st D q =>
  h _ σ H H1 st D fun σ' G H2 f st' o => ⟨true, hm, fun _ a ha => hs a σ' G H2 st' ha _ fun v G3 H3 f3 d3 => q v G3 H3 (f.tr0 f3) d3, fun z => nomatch z⟩
end
/-- steps of an evaluation -/
theorem cm1 {i j : Int} (h : -(2 ^ 64) < j ∧ j < 2 ^ 64) : CMul i j := .inr h
theorem cm0 {i j : Int} (h : -(2 ^ 64) < i ∧ i < 2 ^ 64) : CMul i j := .inl h
end Pf

namespace Pf
open PySem PySem.Spec PyProof.Rows L2
/-! ### data that == compares as it is -/
mutual
/-- no truth value, no dict within; texts as they may be -/
def nb : PyData → Bool
  | .none => true
  | .int _ => true
  | .str x => PyData.canLay0 (.str x)
  | .list xs => nbs xs
  | .tuple xs => nbs xs
  | _ => false
def nbs : List PyData → Bool
  | [] => true
  | x :: r => nb x && nbs r
end
mutual
theorem nb_lay : ∀ d : PyData, nb d = true → d.canLay0 = true
  | .none, _ => by simp [PyData.canLay0]
  | .int _, _ => by simp [PyData.canLay0]
  | .str x, h => by simpa [nb] using h
  | .list xs, h => by simp only [PyData.canLay0]; exact nbs_lay xs (by simpa [nb] using h)
  | .tuple xs, h => by simp only [PyData.canLay0]; exact nbs_lay xs (by simpa [nb] using h)
  | .bool _, h => by simp [nb] at h
  | .dict _, h => by simp [nb] at h
theorem nbs_lay : ∀ xs : List PyData, nbs xs = true → PyData.canLayAll0 xs = true
  | [], _ => by simp [PyData.canLayAll0]
  | x :: r, h => by
    have h' : nb x = true ∧ nbs r = true := by simpa [nbs] using h
    simp only [PyData.canLayAll0, nb_lay x h'.1, nbs_lay r h'.2, Bool.and_self]
end
mutual
theorem eqv_iff : ∀ d e : PyData, nb d = true → nb e = true → (PyData.eqv d e = true ↔ d = e)
  | .none, e, _, h => by cases e <;> simp_all [PyData.eqv, nb]
  | .int i, e, _, h => by cases e <;> simp_all [PyData.eqv, nb]
  | .str x, e, _, h => by cases e <;> simp_all [PyData.eqv, nb]
  | .list xs, e, g, h => by
    cases e with
    | list ys =>
      rw [PyData.eqv, eqvs_iff xs ys (by simpa [nb] using g) (by simpa [nb] using h)]
      simp
    | _ => simp_all [PyData.eqv, nb]
  | .tuple xs, e, g, h => by
    cases e with
    | tuple ys =>
      rw [PyData.eqv, eqvs_iff xs ys (by simpa [nb] using g) (by simpa [nb] using h)]
      simp
    | _ => simp_all [PyData.eqv, nb]
  | .bool _, _, g, _ => by simp [nb] at g
  | .dict _, _, g, _ => by simp [nb] at g
theorem eqvs_iff : ∀ xs ys : List PyData, nbs xs = true → nbs ys = true → (PyData.eqvAll xs ys = true ↔ xs = ys)
  | [], [], _, _ => by simp [PyData.eqvAll]
  | [], _ :: _, _, _ => by simp [PyData.eqvAll]
  | _ :: _, [], _, _ => by simp [PyData.eqvAll]
  | x :: xs, y :: ys, g, h => by
    have g' : nb x = true ∧ nbs xs = true := by simpa [nbs] using g
    have h' : nb y = true ∧ nbs ys = true := by simpa [nbs] using h
    rw [PyData.eqvAll, Bool.and_eq_true, eqv_iff x y g'.1 h'.1, eqvs_iff xs ys g'.2 h'.2]
    simp
end
/-- such data of at most this depth -/
def Sh (n : Nat) (d : PyData) : Prop := nb d = true ∧ d.depth ≤ n
theorem nbs_all : ∀ {xs : List PyData}, (∀ x ∈ xs, nb x = true) → nbs xs = true
  | [], _ => by simp [nbs]
  | x :: r, h => by
    simp only [nbs, Bool.and_eq_true]
    exact ⟨h x List.mem_cons_self, nbs_all fun y hy => h y (List.mem_cons_of_mem _ hy)⟩
theorem depths_all {n : Nat} : ∀ {xs : List PyData}, (∀ x ∈ xs, x.depth ≤ n) → PyData.depthAll xs ≤ n
  | [], _ => by simp [PyData.depthAll]
  | x :: r, h => by
    simp only [PyData.depthAll]
    have h1 := h x List.mem_cons_self
    have h2 := depths_all (n := n) (xs := r) fun y hy => h y (List.mem_cons_of_mem _ hy)
    omega
theorem sh_none {n : Nat} : Sh n .none := ⟨by simp [nb], by simp [PyData.depth]⟩
theorem sh_int {n : Nat} {i : Int} : Sh n (.int i) := ⟨by simp [nb], by simp [PyData.depth]⟩
theorem sh_tup {n : Nat} {xs : List PyData} (h : ∀ x ∈ xs, Sh n x) : Sh (n + 1) (.tuple xs) :=
  ⟨by simp only [nb]; exact nbs_all fun x hx => (h x hx).1, by simp only [PyData.depth]; exact Nat.succ_le_succ (depths_all fun x hx => (h x hx).2)⟩
theorem sh_lst {n : Nat} {xs : List PyData} (h : ∀ x ∈ xs, Sh n x) : Sh (n + 1) (.list xs) :=
  ⟨by simp only [nb]; exact nbs_all fun x hx => (h x hx).1, by simp only [PyData.depth]; exact Nat.succ_le_succ (depths_all fun x hx => (h x hx).2)⟩
theorem Sh.shaped {n : Nat} {d : PyData} (h : Sh n d) (hn : n ≤ 64) : SeqAt.shaped d = true := by
  show (d.canLay0 && decide (d.depth ≤ 64)) = true
  rw [nb_lay d h.1, decide_eq_true (Nat.le_trans h.2 hn)]; rfl
theorem sh_map {α : Type} {n : Nat} {f : α → PyData} {l : List α} (h : ∀ x ∈ l, Sh n (f x)) : ∀ y ∈ l.map f, Sh n y := fun y hy => by
  obtain ⟨x, hx, rfl⟩ := List.mem_map.mp hy
  exact h x hx
theorem sh2 {n : Nat} {a b : PyData} (ha : Sh n a) (hb : Sh n b) : Sh (n + 1) (.tuple [a, b]) := sh_tup fun x hx => by
  rcases List.mem_cons.mp hx with z | z
  · rw [z]; exact ha
  · rw [List.mem_singleton.mp z]; exact hb
theorem sh3 {n : Nat} {a b c : PyData} (ha : Sh n a) (hb : Sh n b) (hc : Sh n c) : Sh (n + 1) (.tuple [a, b, c]) := sh_tup fun x hx => by
  rcases List.mem_cons.mp hx with z | z
  · rw [z]; exact ha
  · rcases List.mem_cons.mp z with z | z
    · rw [z]; exact hb
    · rw [List.mem_singleton.mp z]; exact hc
/-- == of such data is equality -/
theorem eqv_dec {d e : PyData} {n m : Nat} (h : Sh n d) (k : Sh m e) {p : Prop} [Decidable p] (hp : p ↔ d = e) : PyData.eqv d e = decide p := by
  rw [Bool.eq_iff_iff, eqv_iff d e h.1 k.1, decide_eq_true_eq]; exact hp.symm
theorem map_inj {α : Type} {f : α → PyData} (hf : ∀ x y, f x = f y → x = y) {a b : List α} (h : a.map f = b.map f) : a = b := by
  induction a generalizing b with
  | nil => cases b with
    | nil => rfl
    | cons y r => cases h
  | cons x r ih => cases b with
    | nil => cases h
    | cons y s =>
      rw [List.map_cons, List.map_cons] at h
      injection h with h1 h2
      rw [hf x y h1, ih h2]
end Pf
namespace Pf
open PySem PySem.Spec PyProof.Rows L2
section
variable {K : PySem.W.Frag} {X : WX} {env env1 env2 : List SV} {te ta : TE} {t : TS} {tt : TT} {d : PyData} {xs : List PyData} {oc : Oc}
/-- less is known -/
inductive Less : List SV → List SV → Prop where
  | nil : Less [] []
  | keep {s : SV} {a b : List SV} : Less a b → Less (s :: a) (s :: b)
  | drop {s : SV} {a b : List SV} : Less a b → Less (.no :: a) (s :: b)
theorem Less.len : ∀ {a b : List SV}, Less a b → a.length = b.length
  | _, _, .nil => rfl
  | _, _, .keep h => congrArg Nat.succ h.len
  | _, _, .drop h => congrArg Nat.succ h.len
theorem Less.at : ∀ {a b : List SV}, Less a b → ∀ (i : Nat) s, a[i]? = some s → s = .no ∨ b[i]? = some s
  | _, _, .nil, i, s, h => by simp at h
  | _, _, .keep h, 0, s, e => .inr e
  | _, _, .keep h, i + 1, s, e => h.at i s (by simpa using e)
  | _, _, .drop h, 0, s, e => .inl (by simpa using e.symm)
  | _, _, .drop h, i + 1, s, e => h.at i s (by simpa using e)
theorem sx_lessL (l : Less env1 env) (k : Sx K X t env1 oc) : Sx K X t env oc := sx_less l.len l.at k
theorem go_less (k : Sx K X t env (.nx env1)) (l : Less env2 env1) : Go K X t env env2 := .inl (sx_nx_less l.len l.at k)
theorem nx_less (k : Sx K X t env (.nx env1)) (l : Less env2 env1) : Sx K X t env (.nx env2) := sx_nx_less l.len l.at k
theorem et_fix {b : Bool} (i : Nat) (h : env[i]? = some (.own xs)) (k : EvT K tt (env.set i (.dat (.list xs))) b) : EvT K tt env b := fun σ H H1 st Q q => by
  obtain ⟨l, vs, a, b, c, st'⟩ := st.freeze h
  exact k σ _ H1 st' Q fun G H2 f => q H H2 ⟨Same.refl _, (newS b).trans (f.g.trans f.r), f.s, fun _ _ z _ => z, f.m⟩
/-- tuple(a list of data) -/
theorem ev_tupleD (ha : Ev K ta env (.list xs)) : Ev K (tCB (fun xs H Q => ∃ p ys, xs = [.ref p] ∧ ((SqL K H p ys ∧ ∀ l, H l = none → Q (.ref l) (upd H l (.tup ys))) ∨ (SqT K H p ys ∧ Q (.ref p) H))) (tCons ta tNil)) env (.tuple xs) := fun σ H H1 st Q q =>
  ha σ H H1 st _ fun v G H2 f d => by
    cases d with
    | @lst p vs _ hl hd =>
      refine ⟨p, vs, rfl, .inl ⟨f.r.seq hl, fun l h => ?_⟩⟩
      have n : Fr0 G H2 (upd G l (.tup vs)) (upd H2 l (.tup vs)) := Fr.new f.r h
      exact q _ _ _ (f.tr0 n) (.tup (.inl (.inl upd_same)) (dms n.g hd))
theorem atI_map {α : Type} {f : α → PyData} {l : List α} {i : Int} (dflt : α) (h0 : 0 ≤ i) (h1 : i < l.length) : atI (l.map f) i = some (f (l.getD i.toNat dflt)) := by
  unfold atI ixN
  rw [if_pos h0, List.length_map, if_pos h1]
  show (l.map f)[i.toNat]? = _
  have h2 : i.toNat < l.length := by omega
  rw [List.getElem?_map, List.getD_eq_getElem?_getD, List.getElem?_eq_getElem h2]; rfl
end
end Pf
namespace Pf
open PySem PySem.Spec PyProof.Rows L2
/-- isinstance(e, c), e the exception that the suite holds, if it is one of D's own -/
def rIsX (K : PySem.W.Frag) (D a : Addr) (cls : Value) (d : Option Addr) : List V → Hp → VK → Prop := fun xs H Q => (cls = .ref D ∧ d = none) ∧ rIsE K D a xs H Q
theorem call_isX {X : Cx} {a D : Addr} {oe : Obj} {cls : Value} {d : Option Addr} {pn : List (Addr × Obj)} (C : ExcC X.K D) (hz : Zc cls d oe) (hf : ∃ vs, oe.data = .fields vs) : CallR (X.suite a ((a, oe) :: pn)) (.builtin "isinstance") (rIsX X.K D a cls d) := by
  intro pins s σ H xs us Q I r h
  obtain ⟨⟨rfl, rfl⟩, h⟩ := h
  exact call_isE C hz hf pins s σ H xs us Q I r h
end Pf
namespace Pf
open PySem PySem.Spec PyProof.Rows L2
theorem cutD_nat (xs : List PyData) (a b : Nat) (h : a ≤ b) : cutD xs (some (a : Int)) (some (b : Int)) = (xs.drop a).take (b - a) := by
  unfold cutD
  rw [HT.sIx_nat, HT.sIx_nat]
  by_cases c : a ≤ xs.length
  · rw [Nat.min_eq_left c]
    by_cases d : b ≤ xs.length
    · rw [Nat.min_eq_left d]
    · have e1 : (xs.drop a).length ≤ min b xs.length - a := by rw [List.length_drop]; omega
      have e2 : (xs.drop a).length ≤ b - a := by rw [List.length_drop]; omega
      rw [List.take_of_length_le e1, List.take_of_length_le e2]
  · have e1 : xs.drop a = [] := List.drop_eq_nil_of_le (by omega)
    have e2 : xs.drop (min a xs.length) = [] := List.drop_eq_nil_of_le (by omega)
    rw [e1, e2, List.take_nil, List.take_nil]
end Pf

namespace Pf
open PySem PySem.Spec PyProof.Rows L2
theorem kit_bi {K : PySem.W.Frag} {C : Addr} {t : String} {v : Bool} (h : PySem.W.subIn K (.ref C) (.type t) = some v) (m : PySem.W.kitMeta t = true) : PySem.W.kitOne K (.ref C) (.type t) = some v := by
  have q : (Value.ref C == Value.type t) = false := rfl
  unfold PySem.W.kitOne PySem.W.kitCls
  rw [q, if_neg Bool.false_ne_true]
  show (if PySem.W.kitMeta t = true then PySem.W.subIn K (.ref C) (.type t) else none) = some v
  rw [if_pos m]; exact h
theorem kit_own {K : PySem.W.Frag} {C D : Addr} {v : Bool} (h : PySem.W.subIn K (.ref C) (.ref D) = some v) (hc : PySem.W.subIn K (.ref C) (.ref C) = some true) (h2 : PySem.W.isClsIn K D = true) (h3 : PySem.W.typeIn K (.ref D) = some (.type "type")) : PySem.W.kitOne K (.ref C) (.ref D) = some v := by
  unfold PySem.W.kitOne
  by_cases e : C = D
  · subst e
    rw [hc] at h
    rw [if_pos (by exact beq_self_eq_true _)]; exact h
  · have q : (Value.ref C == Value.ref D) = false := by
      cases b : (Value.ref C == Value.ref D) with
      | false => rfl
      | true => exact absurd (Value.ref.inj (eq_of_beq b)) e
    rw [q, if_neg Bool.false_ne_true]
    have q2 : ((PySem.W.clsIn K D).isSome && PySem.W.typeIn K (.ref D) == some (.type "type")) = true := by
      have : (PySem.W.clsIn K D).isSome = true := h2
      rw [this, h3]; rfl
    show (if ((PySem.W.clsIn K D).isSome && PySem.W.typeIn K (.ref D) == some (.type "type")) = true then PySem.W.subIn K (.ref C) (.ref D) else none) = some v
    rw [if_pos q2]; exact h
end Pf
namespace Pf
open PySem PySem.Spec PyProof.Rows L2
section
variable {K : PySem.W.Frag} {env : List SV} {ta : TE}
theorem up_of_le : ∀ {l : List Int}, l.Pairwise (· ≤ ·) → l.Nodup → l.Pairwise (· < ·)
  | [], _, _ => List.Pairwise.nil
  | x :: r, h, d => by
    have h' := List.pairwise_cons.mp h
    have d' := List.nodup_cons.mp d
    refine List.pairwise_cons.mpr ⟨fun y hy => ?_, up_of_le h'.2 d'.2⟩
    have h1 := h'.1 y hy
    have h2 : x ≠ y := fun e => d'.1 (by rw [e]; exact hy)
    omega
theorem eo_sorted {ns L : List Int} (ha : EvL K ta env (ns.map .int)) (hn : ns.length < 64) (hd : ns.Nodup) (hL : L.Pairwise (· < ·)) (hm : ∀ k, k ∈ L ↔ k ∈ ns) : EvO K (tCB (rSorted K) (tCons ta tNil)) env (L.map .int) := fun σ H H1 st Q q =>
  ha σ H H1 st _ fun p vs G H2 f h2 dv => by
    have e := dpa_ints dv
    subst e
    refine ⟨p, ns, rfl, .inl (.inl h2), hn, fun ns' r hp hs hr => ?_⟩
    have e : ns' = L := rising_one (up_of_le hs (hp.nodup_iff.mpr hd)) hL fun k => hp.mem_iff.trans (hm k).symm
    subst e
    exact q r _ G _ (f.tr0 (Fr.hid f.r hr)) (f.a.free hr) (f.r.free hr) upd_same (dpa_of_ints ns')
end
end Pf

namespace Pf
open PySem PySem.Spec PyProof.Rows L2
section
variable {K : PySem.W.Frag} {X : WX} {env env1 env2 : List SV} {ta tb tc te tl : TE} {t u ts : TS} {tt : TT} {d e : PyData} {i j : Int} {xs ys ds : List PyData} {oc : Oc} {P M : Oc → Prop}
/-! ### one of several ends -/
def Sn (K : PySem.W.Frag) (X : WX) (ts : TS) (env : List SV) (P : Oc → Prop) : Prop := ∀ σ H H1, Stt K H H1 σ env → ∀ D : Ends, (∀ oc, P oc → OcOk K X (Ow σ env) D H H1 oc) → ts D σ H1
theorem sn_of (h : Sx K X t env oc) (hp : P oc) : Sn K X t env P := fun σ H H1 st D q => h σ H H1 st D (q oc hp)
theorem Sn.imp {P' : Oc → Prop} (h : Sn K X t env P) (i : ∀ oc, P oc → P' oc) : Sn K X t env P' := fun σ H H1 st D q => h σ H H1 st D fun oc p => q oc (i oc p)
theorem Sn.sx (h : Sn K X t env (· = oc)) : Sx K X t env oc := fun σ H H1 st D q => h σ H H1 st D fun oc' e => by rw [e]; exact q
theorem sn_seq {M : List SV → Prop} (h : Sn K X t env (fun oc => ∃ e, oc = .nx e ∧ M e)) (k : ∀ e, M e → Sn K X u e P) : Sn K X (tSeq t u) env P := fun σ H H1 st D q =>
  h σ H H1 st { D with nx := u D } fun oc ⟨e, eo, me⟩ => by
    subst eo
    exact fun σ' G H2 f st' o => k e me σ' G H2 st' D fun oc' p => (q oc' p).tr f o
theorem sn_seq1 (h : Sx K X t env (.nx env1)) (k : Sn K X u env1 P) : Sn K X (tSeq t u) env P :=
  sn_seq (M := (· = env1)) (sn_of h ⟨env1, rfl, rfl⟩) fun e he => by rw [he]; exact k
theorem sn_end (h : Sn K X t env P) (he : ∀ oc, P oc → oc.isNx = false) : Sn K X (tSeq t u) env P := fun σ H H1 st D q =>
  h σ H H1 st { D with nx := u D } fun oc p => by
    have q1 := q oc p
    have e1 := he oc p
    cases oc with
    | nx env => cases e1
    | bk env => exact q1
    | ct env => exact q1
    | ex c env => exact q1
    | rt d => exact q1
    | rl xs => exact q1
    | rr v => exact q1
    | rw vs e => exact q1
theorem sn_if {b : Bool} (h : EvT K tt env b) (h1 : b = true → Sn K X t env P) (h2 : b = false → Sn K X u env P) : Sn K X (tIfS tt t u) env P := fun σ H H1 st D q =>
  h σ H H1 st _ fun G H2 f => by
    cases b with
    | true => exact h1 rfl σ G H2 (st.mono f) D fun oc p => (q oc p).tr0 f
    | false => exact h2 rfl σ G H2 (st.mono f) D fun oc p => (q oc p).tr0 f
/-- if c: (ends), and what follows -/
theorem sn_when {b : Bool} (h : EvT K tt env b) (h1 : b = true → Sn K X t env P) (he : ∀ oc, P oc → oc.isNx = false) (h2 : b = false → Sn K X ts env P) : Sn K X (tSeq (tIfS tt t tNext) ts) env P := by
  cases b with
  | true => exact sn_end (sn_if h h1 fun z => nomatch z) he
  | false => exact sn_seq1 (sx_no h sx_next) (h2 rfl)
/-- if c: .., and what follows from either -/
theorem sn_ifs {b : Bool} {M : List SV → Prop} (h : EvT K tt env b) (h1 : b = true → Sn K X t env (fun oc => ∃ e, oc = .nx e ∧ M e)) (h2 : b = false → Sn K X u env (fun oc => ∃ e, oc = .nx e ∧ M e)) (h3 : ∀ e, M e → Sn K X ts e P) : Sn K X (tSeq (tIfS tt t u) ts) env P := sn_seq (sn_if h h1 h2) h3
theorem sn_fix (i : Nat) (h : env[i]? = some (.own xs)) (k : Sn K X t (env.set i (.dat (.list xs))) P) : Sn K X t env P := fun σ H H1 st D q => by
  obtain ⟨l, vs, a, b, c, st'⟩ := st.freeze h
  refine k σ _ H1 st' D fun oc p => (q oc p).tr ⟨newS b, st'.e, fun _ _ _ z => z, fun p nw hp _ => ?_, fun _ z => z⟩ fun p z => .inl (Ow.freeze z)
  have n : p ≠ l := fun z => nw ⟨i, _, h, rfl, by rw [z]; exact a⟩
  rw [upd_ne n]; exact hp
theorem sn_less (l : Less env1 env) (k : Sn K X t env1 P) : Sn K X t env P := fun σ H H1 st D q =>
  k σ H H1 (st.less l.len l.at) D fun oc p => (q oc p).tr (Fr.refl st.e) fun l' z => by
    obtain ⟨j, s, a, b, c⟩ := z
    rcases l.at j s a with y | y
    · subst y; cases b
    · exact .inl ⟨j, s, y, b, c⟩
theorem runN {H H1 : Hp} {N : List Str} {vs : List V} {n : Nat} {D : Ends} (s : Same H H1) (dv : DpAll K H vs ds) (hn : N.length - ds.length = n) (h : Sn K X t (ds.map .dat ++ List.replicate n .no) P) (q : ∀ oc, P oc → OcOk K X (fun _ => False) D H H1 oc) : t D (L2.start N vs) H1 := by
  have st := stt_start (N := N) s dv hn
  refine h _ H H1 st D fun oc p => (q oc p).tr (Fr.refl s) fun p z => (ow_none (fun sv m => ?_) z).elim
  rcases List.mem_append.mp m with m | m
  · obtain ⟨d, _, rfl⟩ := List.mem_map.mp m; rfl
  · obtain ⟨_, rfl⟩ := List.mem_replicate.mp m; rfl
/-- what stands between two turns, one of several -/
def Pn (K : PySem.W.Frag) (W : Addr → Prop) (H H1 : Hp) (Inv : Nat → List SV → Prop) : Nat → L2.St → Hp → Prop := fun i σ' H' => ∃ e G, Inv i e ∧ Fr W H H1 G H' ∧ Stt K G H' σ' e ∧ ∀ l, Ow σ' e l → W l ∨ H1 l = none
theorem pn_turn {W : Addr → Prop} {H H1 G H' : Hp} {Inv : Nat → List SV → Prop} {i : Nat} {env' : List SV} {D : Ends} {x : PyData} {g : TG} {e : List SV} {v : V} {σ' : L2.St}
    (f : Fr W H H1 G H') (st : Stt K G H' σ' e) (ow : ∀ l, Ow σ' e l → W l ∨ H1 l = none) (dv : Dp K G v x) (tg : Tg K g e x env') (b : Sn K X t env' (fun oc => ∃ e', (oc = .nx e' ∨ oc = .ct e') ∧ Inv (i + 1) e')) :
    g v σ' H' fun σ2 H2 => t { D with nx := Pn K W H H1 Inv (i + 1), ct := Pn K W H H1 Inv (i + 1) } σ2 H2 := by
  refine tg σ' G H' v st dv _ fun σ2 st3 o3 => ?_
  have ow3 : ∀ l, Ow σ2 env' l → W l ∨ H1 l = none := fun l z => ow l (o3 l z)
  refine b σ2 G H' st3 _ fun oc ⟨e', eo, ie⟩ => ?_
  have nx : ∀ σ3 G3 H3, Fr (Ow σ2 env') G H' G3 H3 → Stt K G3 H3 σ3 e' → (∀ l, Ow σ3 e' l → Ow σ2 env' l ∨ H' l = none) → Pn K W H H1 Inv (i + 1) σ3 H3 := fun σ3 G3 H3 f3 st4 o4 =>
    ⟨e', G3, ie, f.trans f3 ow3, st4, fun l z => (o4 l z).elim (ow3 l) fun z => .inr (f.m l z)⟩
  rcases eo with eo | eo <;> (subst eo; exact nx)
theorem sn_for {g : TG} (h : Ev K tl env (.list ds)) (Inv : Nat → List SV → Prop) (h0 : Inv 0 env) (go : ∀ (i : Nat) (d : PyData) e, ds[i]? = some d → Inv i e → ∃ env', Tg K g e d env' ∧ Sn K X t env' (fun oc => ∃ e', (oc = .nx e' ∨ oc = .ct e') ∧ Inv (i + 1) e')) : Sn K X (tFor (iList K tl) g t) env (fun oc => ∃ e, oc = .nx e ∧ Inv ds.length e) := fun σ H H1 st D q => by
  refine h σ H H1 st _ fun v G0 H2 f dv => ?_
  cases dv with
  | @lst a vs _ hl hd =>
    have f' : Fr (Ow σ env) H H1 G0 H2 := f.mono fun _ z => z.elim
    refine ⟨a, rfl, ⟨vs, f.r.seq hl⟩, for_list (K := K) (a := a) (xs := vs) (Pn K (Ow σ env) G0 H2 Inv) ⟨env, G0, h0, Fr.refl f.r, st.mono f, fun l z => .inl z⟩ (fun i σ' H' _ p => ?_) (fun i x σ' H' hi p => ?_) (fun σ' H' p => ?_)⟩
    · obtain ⟨e, G, _, f2, _, _⟩ := p
      exact f2.r.seq (f2.g.seq hl)
    · obtain ⟨e, G, ie, f2, st2, ow⟩ := p
      obtain ⟨d, e1, e2⟩ := dpa_get hd hi
      obtain ⟨env', tg, b⟩ := go i d e e1 ie
      exact pn_turn (D := { D with bk := D.nx }) f2 st2 ow (dm f2.g e2) tg b
    · obtain ⟨e, G, ie, f2, st2, ow⟩ := p
      rw [dpa_len hd] at ie
      exact q _ ⟨e, rfl, ie⟩ σ' G H' (f'.trans f2 fun l z => .inl z) st2 fun l z => (ow l z).elim .inl fun z => .inr (f.m l z)
theorem sn_forR1 {n : Nat} {aa : TA} {g : TG} {k : Int} (h : EvA K aa env [.int k]) (hk : -100000 ≤ k ∧ k ≤ 100000) (hn : k.toNat = n) (Inv : Nat → List SV → Prop) (h0 : Inv 0 env) (go : ∀ (i : Nat) e, i < n → Inv i e → ∃ env', Tg K g e (.int i) env' ∧ Sn K X t env' (fun oc => ∃ e', (oc = .nx e' ∨ oc = .ct e') ∧ Inv (i + 1) e')) :
    Sn K X (tFor (iRng1 aa) g t) env (fun oc => ∃ e, oc = .nx e ∧ Inv n e) := fun σ H H1 st D q => by
  refine h σ H H1 st _ fun vs G0 H2 f dv => ?_
  cases dv with
  | cons a b =>
    cases b; cases a
    have f' : Fr (Ow σ env) H H1 G0 H2 := f.mono fun _ z => z.elim
    refine ⟨k, rfl, by omega, by omega, for_range (lo := 0) (n := k.toNat) (Pn K (Ow σ env) G0 H2 Inv) ⟨env, G0, h0, Fr.refl f.r, st.mono f, fun l z => .inl z⟩ (fun i σ' H' hi p => ?_) (fun σ' H' p => ?_)⟩
    · obtain ⟨e, G, ie, f2, st2, ow⟩ := p
      obtain ⟨env', tg, b⟩ := go i e (by omega) ie
      rw [Int.zero_add]
      exact pn_turn (D := { D with bk := D.nx }) f2 st2 ow (.int _) tg b
    · obtain ⟨e, G, ie, f2, st2, ow⟩ := p
      rw [hn] at ie
      exact q _ ⟨e, rfl, ie⟩ σ' G H' (f'.trans f2 fun l z => .inl z) st2 fun l z => (ow l z).elim .inl fun z => .inr (f.m l z)
theorem sn_forR2 {n : Nat} {aa : TA} {g : TG} {lo k : Int} (h : EvA K aa env [.int lo, .int k]) (hk : -100000 ≤ k ∧ k ≤ 100000) (hlo : -100000 ≤ lo ∧ lo ≤ 100000) (hn : (k - lo).toNat = n) (Inv : Nat → List SV → Prop) (h0 : Inv 0 env) (go : ∀ (i : Nat) e, i < n → Inv i e → ∃ env', Tg K g e (.int (lo + i)) env' ∧ Sn K X t env' (fun oc => ∃ e', (oc = .nx e' ∨ oc = .ct e') ∧ Inv (i + 1) e')) :
    Sn K X (tFor (iRng2 aa) g t) env (fun oc => ∃ e, oc = .nx e ∧ Inv n e) := fun σ H H1 st D q => by
  refine h σ H H1 st _ fun vs G0 H2 f dv => ?_
  cases dv with
  | cons a b =>
    cases b with
    | cons b c =>
      cases c; cases a; cases b
      have f' : Fr (Ow σ env) H H1 G0 H2 := f.mono fun _ z => z.elim
      refine ⟨lo, k, rfl, by omega, for_range (lo := lo) (n := (k - lo).toNat) (Pn K (Ow σ env) G0 H2 Inv) ⟨env, G0, h0, Fr.refl f.r, st.mono f, fun l z => .inl z⟩ (fun i σ' H' hi p => ?_) (fun σ' H' p => ?_)⟩
      · obtain ⟨e, G, ie, f2, st2, ow⟩ := p
        obtain ⟨env', tg, b⟩ := go i e (by omega) ie
        exact pn_turn (D := { D with bk := D.nx }) f2 st2 ow (.int _) tg b
      · obtain ⟨e, G, ie, f2, st2, ow⟩ := p
        rw [hn] at ie
        exact q _ ⟨e, rfl, ie⟩ σ' G H' (f'.trans f2 fun l z => .inl z) st2 fun l z => (ow l z).elim .inl fun z => .inr (f.m l z)
theorem sn_forR3 {n : Nat} {aa : TA} {g : TG} {lo k c : Int} (h : EvA K aa env [.int lo, .int k, .int c]) (hr : RgC lo k c n) (Inv : Nat → List SV → Prop) (h0 : Inv 0 env) (go : ∀ (i : Nat) e, i < n → Inv i e → ∃ env', Tg K g e (.int (lo + (i : Nat) * c)) env' ∧ Sn K X t env' (fun oc => ∃ e', (oc = .nx e' ∨ oc = .ct e') ∧ Inv (i + 1) e')) :
    Sn K X (tFor (iRng3 aa) g t) env (fun oc => ∃ e, oc = .nx e ∧ Inv n e) := fun σ H H1 st D q => by
  refine h σ H H1 st _ fun vs G0 H2 f dv => ?_
  cases dv with
  | cons a b =>
    cases b with
    | cons b b2 =>
      cases b2 with
      | cons b2 b3 =>
        cases b3; cases a; cases b; cases b2
        have f' : Fr (Ow σ env) H H1 G0 H2 := f.mono fun _ z => z.elim
        refine ⟨lo, k, c, n, rfl, hr, for_rangeC (lo := lo) (c := c) (n := n) (Pn K (Ow σ env) G0 H2 Inv) ⟨env, G0, h0, Fr.refl f.r, st.mono f, fun l z => .inl z⟩ (fun i σ' H' hi p => ?_) (fun σ' H' p => ?_)⟩
        · obtain ⟨e, G, ie, f2, st2, ow⟩ := p
          obtain ⟨env', tg, b⟩ := go i e hi ie
          exact pn_turn (D := { D with bk := D.nx }) f2 st2 ow (.int _) tg b
        · obtain ⟨e, G, ie, f2, st2, ow⟩ := p
          exact q _ ⟨e, rfl, ie⟩ σ' G H' (f'.trans f2 fun l z => .inl z) st2 fun l z => (ow l z).elim .inl fun z => .inr (f.m l z)
/-! ### a def that gives some list back -/
def spLN (K : PySem.W.Frag) (R : List PyData → List PyData → Prop) (I : List PyData → Prop) : Sp := fun vs H1 Q _ => ∃ H ds, Same H H1 ∧ DpAll K H vs ds ∧ I ds ∧ ∀ xs, R ds xs → ∀ p ws G H2, Fr0 H H1 G H2 → H1 p = none → G p = none → H2 p = some (.lst ws) → DpAll K G ws xs → Q (.ref p) H2
theorem sn_setN {R : List PyData → List PyData → Prop} {I : List PyData → Prop} {E : L2.St → XK} {aa : TA} {n : Nat} (ha : EvA K aa env ds) (hi : I ds) : Sn K X (tAsg (tCallS (spLN K R I) E aa) (gName n)) env (fun oc => ∃ e, oc = .nx e ∧ ∃ xs, R ds xs ∧ e = env.set n (.own xs)) := fun σ H H1 st D q =>
  ha σ H H1 st _ fun vs G H2 f dv => ⟨G, ds, f.r, dv, hi, fun xs hr p ws G3 H3 f3 h1 h2 h3 d3 => q _ ⟨_, rfl, xs, hr, rfl⟩ _ G3 H3 ((f.tr0 f3).mono fun _ z => z.elim) (st.setN (f.tr0 f3) (f.a.free h1) h2 h3 d3) fun l z => by
    rcases Ow.set z with z | ⟨_, z⟩
    · exact .inl z
    · cases z; exact .inr (f.a.free h1)⟩
theorem sn_retN {R : List PyData → List PyData → Prop} {I : List PyData → Prop} {E : L2.St → XK} {aa : TA} (ha : EvA K aa env ds) (hi : I ds) (hp : ∀ xs, R ds xs → P (.rl xs)) : Sn K X (tRet (tCallS (spLN K R I) E aa)) env P := fun σ H H1 st D q =>
  ha σ H H1 st _ fun vs G H2 f dv => ⟨G, ds, f.r, dv, hi, fun xs hr p ws G3 H3 f3 h1 h2 h3 d3 => q _ (hp xs hr) p ws G3 H3 ((f.tr0 f3).mono fun _ z => z.elim) (.inr (f.a.free h1)) h2 h3 d3⟩
/-! ### comprehensions over range(a, b) -/
theorem eo_lcR2 {n : Nat} {lo k : Int} {aa : TA} (f : Nat → Bool) (w : Nat → PyData) {g : TG} {vs : List Nat} (h : EvA K aa env [.int lo, .int k]) (hk : -100000 < k ∧ k < 100000) (hlo : -100000 < lo ∧ lo < 100000) (hn : (k - lo).toNat = n) (hnn : n < 100000) (turn : ∀ i : Nat, i < n → ∃ env', Tgw K vs g (wipeE env vs) (.int (lo + i)) env' ∧ EvT K tt env' (f i) ∧ (f i = true → Ev K te env' (w i))) :
    EvO K (tLc (iRng2 aa) g tt te vs) env (((List.range n).filter f).map w) := fun σ H H1 st Q q => by
  refine h σ H H1 st _ fun ws G0 H2 f0 dv => ?_
  cases dv with
  | cons a b =>
    cases b with
    | cons b c =>
      cases c; cases a; cases b
      refine ⟨lo, k, rfl, by omega, fun D hD => ?_⟩
      have st0 := st.mono f0
      have nD : ∀ l, Ow (L2.wipe σ vs) (wipeE env vs) l → ¬ l = D := fun l z e => by
        have := (st0.owned (Ow.wipe z)).2
        exact this (by rw [e]; exact hD)
      have hz : (List.range n).length < 100000 := by rw [List.length_range]; exact hnn
      refine lc_range (lo := lo) (n := (k - lo).toNat) (fun i H' => Mk K G0 H2 D ((((List.range n).take i).filter f).map w) H') (mk_start f0.r hD) (fun i H' hi p => ?_) (fun H' p => ?_)
      · obtain ⟨G, ac, f1, hG, ha, da⟩ := p
        have ex : (List.range n)[i]? = some i := range_get (by omega)
        obtain ⟨env', tg, ht, he⟩ := turn i (by omega)
        refine tg _ G H' _ ((st0.wipe vs).monoW f1 nD) (.int _) _ fun σ' st' o hw => ⟨?_, ?_⟩
        · rw [hw]; exact wipe_wipe fun _ z => z
        · rw [filter_next ex]
          exact mk_turn f1 hG ha da (take_short hz) st' ht he
      · obtain ⟨G, ac, f1, hG, ha, da⟩ := p
        have ff : Fr0 H H1 G H' := f0.trans f1 fun p z => .inr (by rw [z]; exact f0.a.free hD)
        rw [hn, List.take_of_length_le (by rw [List.length_range]; exact Nat.le_refl _)] at da
        exact q D ac G H' ff (f0.a.free hD) hG ha da
theorem et_yes : EvT K tYes env true := fun σ H H1 st Q q => q H H1 (Fr.refl st.e)
/-- xs.clear() -/
theorem sx_clear {i : Nat} (h : env[i]? = some (.own xs)) : Sx K X (tDrop (tBM0 K "list" rClear (tVar i))) env (.nx (env.set i (.own []))) := fun σ H H1 st D q => by
  obtain ⟨l, vs, a, b, c, dv⟩ := st.own h
  refine ⟨_, a, .inl ⟨rfl, _, .inl (.inl c)⟩, l, vs, rfl, rfl, c, ?_⟩
  have hw : Ow σ env l := ⟨i, _, h, rfl, a⟩
  have e2 : Same H (upd H1 l (.lst [])) := fun p o z => by
    rw [upd_ne (ne_of_none z b)]; exact st.e p o z
  refine q σ H _ ⟨Same.refl _, e2, fun p o nw z => ?_, fun p nw z _ => z, fun p z => upd_none z⟩ ?_ fun l z => ?_
  · have n : p ≠ l := fun z => nw (z ▸ hw)
    rw [upd_ne n]; exact z
  · refine ⟨e2, by rw [List.length_set]; exact st.l, fun j o s ea eb => ?_, fun j k s s' p hjk b1 b2 o1 o2 a1 => ?_⟩
    · by_cases ej : i = j
      · subst ej
        rw [a] at ea; cases ea
        have hi : i < env.length := (List.getElem?_eq_some_iff.mp h).1
        rw [List.getElem?_set_self hi] at eb; cases eb
        exact ⟨l, _, rfl, b, upd_same, .nil⟩
      · rw [List.getElem?_set_ne ej] at eb
        have ok := st.ok j o s ea eb
        cases s with
        | no => trivial
        | dat d => exact ok
        | own zs =>
          obtain ⟨l2, ws, q1, q2, q3, q4⟩ := ok
          subst q1
          have n : l2 ≠ l := fun z => st.ne i j _ _ l ej h eb rfl rfl a (z ▸ ea)
          exact ⟨l2, ws, rfl, q2, by rw [upd_ne n]; exact q3, q4⟩
        | obj x =>
          obtain ⟨l2, q1, q2, q3⟩ := ok
          subst q1
          have n : l2 ≠ l := fun z => st.ne i j _ _ l ej h eb rfl rfl a (z ▸ ea)
          exact ⟨l2, rfl, q2, by rw [upd_ne n]; exact q3⟩
        | raw v => exact ok
        | dct P w kvs =>
          obtain ⟨l2, ws, q1, q2, q3, q4⟩ := ok
          subst q1
          have n : l2 ≠ l := fun z => st.ne i j _ _ l ej h eb rfl rfl a (z ▸ ea)
          exact ⟨l2, ws, rfl, q2, by rw [upd_ne n]; exact q3, q4⟩
        | dcf P w kvs => exact ok
        | kep n xs ys => exact ok
        | rd v d => exact ok
        | tupv ws => exact ok
        | ownA l2 zs =>
          obtain ⟨q1, ws, q2, q3, q4⟩ := ok
          subst q1
          have n : l2 ≠ l := fun z => st.ne i j _ _ l ej h eb rfl rfl a (z ▸ ea)
          exact ⟨rfl, ws, q2, by rw [upd_ne n]; exact q3, q4⟩
    · by_cases e1 : i = j
      · subst e1
        rw [List.getElem?_set_ne hjk] at b2
        exact st.ne i k _ s' p hjk h b2 rfl o2 a1
      · rw [List.getElem?_set_ne e1] at b1
        by_cases e2 : i = k
        · subst e2
          exact st.ne j i s _ p hjk b1 h o1 rfl a1
        · rw [List.getElem?_set_ne e2] at b2
          exact st.ne j k s s' p hjk b1 b2 o1 o2 a1
  · obtain ⟨j, s, z1, z2, z3⟩ := z
    by_cases e1 : i = j
    · subst e1
      rw [a] at z3; cases z3
      exact .inl hw
    · rw [List.getElem?_set_ne e1] at z1
      exact .inl ⟨j, s, z1, z2, z3⟩
end
end Pf
namespace Pf
open PySem PySem.Spec PyProof.Rows L2
section
variable {K : PySem.W.Frag} {X : WX} {env : List SV} {d : PyData} {ds : List PyData} {P : Oc → Prop}
/-- a def that gives some data back -/
def spN (K : PySem.W.Frag) (R : List PyData → PyData → Prop) (I : List PyData → Prop) : Sp := fun vs H1 Q _ => ∃ H ds, Same H H1 ∧ DpAll K H vs ds ∧ I ds ∧ ∀ d, R ds d → ∀ v G H2, Fr0 H H1 G H2 → Dp K G v d → Q v H2
theorem sn_setD {R : List PyData → PyData → Prop} {I : List PyData → Prop} {E : L2.St → XK} {aa : TA} {n : Nat} (ha : EvA K aa env ds) (hi : I ds) : Sn K X (tAsg (tCallS (spN K R I) E aa) (gName n)) env (fun oc => ∃ e, oc = .nx e ∧ ∃ d, R ds d ∧ e = env.set n (.dat d)) := fun σ H H1 st D q =>
  ha σ H H1 st _ fun vs G H2 f dv => ⟨G, ds, f.r, dv, hi, fun d hr v G3 H3 f3 d3 => q _ ⟨_, rfl, d, hr, rfl⟩ _ G3 H3 ((f.tr0 f3).mono fun _ z => z.elim) ((st.mono (f.tr0 f3)).setD d3) fun l z => by
    rcases Ow.set z with z | ⟨z, _⟩
    · exact .inl z
    · cases z⟩
theorem sn_ret {te : TE} (h : Ev K te env d) (p : P (.rt d)) : Sn K X (tRet te) env P := sn_of (sx_ret h) p
theorem any2 (x a b : Int) : ([PyData.int a, .int b].any fun z => eqF z (.int x)) = decide (x = a ∨ x = b) := by
  show (decide (a = x) || (decide (b = x) || false)) = _
  rw [Bool.or_false, Bool.eq_iff_iff, Bool.or_eq_true, decide_eq_true_eq, decide_eq_true_eq, decide_eq_true_eq]
  exact or_congr ⟨Eq.symm, Eq.symm⟩ ⟨Eq.symm, Eq.symm⟩
end
end Pf
namespace Pf
open PySem PySem.Spec PyProof.Rows L2
section
variable {K : PySem.W.Frag} {X : WX} {env env1 : List SV} {t : TS} {M N : List SV → Prop}
theorem ok_less {W : Addr → Prop} {D : Ends} {H H1 : Hp} {e e' : List SV} (l : Less e' e) (q : OcOk K X W D H H1 (.nx e')) : OcOk K X W D H H1 (.nx e) := fun σ G H2 f st o =>
  q σ G H2 f (st.less l.len l.at) fun p z => by
    obtain ⟨j, s, a, b, c⟩ := z
    rcases l.at j s a with y | y
    · subst y; cases b
    · exact o p ⟨j, s, y, b, c⟩
/-- a turn's end, told with less -/
theorem sn_out (h : Sn K X t env (fun oc => ∃ e, oc = .nx e ∧ M e)) (k : ∀ e, M e → ∃ e', Less e' e ∧ N e') : Sn K X t env (fun oc => ∃ e', (oc = .nx e' ∨ oc = .ct e') ∧ N e') := fun σ H H1 st D q =>
  h σ H H1 st D fun oc ⟨e, eo, me⟩ => by
    subst eo
    obtain ⟨e', l, ne⟩ := k e me
    exact ok_less l (q _ ⟨e', .inl rfl, ne⟩)
theorem sn_out1 (h : Sx K X t env (.nx env1)) (k : ∃ e', Less e' env1 ∧ N e') : Sn K X t env (fun oc => ∃ e', (oc = .nx e' ∨ oc = .ct e') ∧ N e') :=
  sn_out (M := (· = env1)) (sn_of h ⟨env1, rfl, rfl⟩) fun e he => by rw [he]; exact k
end
end Pf
namespace Pf
open PySem PySem.Spec PyProof.Rows L2
theorem u65 {k : Nat} {A : Around} (r : Room k A) : A.units + 65 < cLine := by have := r.un; omega
end Pf

namespace Pf
open PySem PySem.Spec PyProof.Rows L2
/-! ### a list's count of True -/
theorem eqg_bl (a b : Bool) : MeetsSeq.EqGives (.bool a) (.bool b) (a == b) := fun prog w A E s Q q => by
  unfold eqBool
  refine wpAny_holding ?_
  by_cases e : (Value.bool a == Value.bool b) = true
  · rw [if_pos e]
    have e' : a = b := Value.bool.inj (eq_of_beq e)
    subst e'
    exact wpAny_bind (wpAny_rule (wpAny_pure (by simpa using q)))
  · rw [if_neg e]
    exact wpAny_bind (PyProof.Rows.eq_bool (wpAny_truthy_bool q))
def eqb (b : Bool) : Value → Bool
  | .bool c => c == b
  | _ => false
def rCntB (K : PySem.W.Frag) : V → List V → Hp → VK → Prop := fun x xs H Q => ∃ (p : Addr) (bs : List Bool) (b : Bool), x = .ref p ∧ xs = [.bl b] ∧ SqL K H p (bs.map V.bl) ∧ Q (.int (bs.count b : Nat)) H
theorem bls_of_vals : ∀ {bs : List Bool} {us : List Value}, Vals (bs.map V.bl) us → us = bs.map Value.bool
  | [], _, .nil => rfl
  | b :: r, _, .cons e k => by
    rw [bls_of_vals k]
    cases e; rfl
theorem eqb_count (b : Bool) : ∀ bs : List Bool, (bs.map Value.bool).countP (eqb b) = bs.count b
  | [] => rfl
  | c :: r => by
    rw [List.map_cons, List.countP_cons, List.count_cons, eqb_count b r]; rfl
theorem mt_lcountB {X : Cx} : MtR X "list.count" (rCntB X.K) := by
  intro pins s σ H x xs v us Q I rx rxs h
  obtain ⟨p, bs, b, rfl, rfl, hs, q⟩ := h
  cases rx
  obtain ⟨u, rfl, ru⟩ := Vals.one rxs
  cases ru
  obtain ⟨its, rv, ⟨⟨cls, dd, data, sl⟩, n, ho, hc, hdn, hd⟩, hlen⟩ := I.list hs
  dsimp only at hc hd hdn
  subst hc hd
  have e := bls_of_vals rv
  subst e
  refine call_meets F.slot_list_count ⟨_, ho, rfl⟩ F.entry_list_count (F.args_list_count_2 _ _) (SeqAt.list_countAt p _ n dd sl _ (eqb b)) ⟨ho, fun y hy => ?_, ?_⟩
  · have hy' : y ∈ bs.map Value.bool := by simpa using hy
    obtain ⟨c, _, rfl⟩ := List.mem_map.mp hy'
    exact (eqg_bl c b).at X.A.in1 s
  · refine ⟨.int (bs.count b : Nat), H, I.tok (s.toks + 1), ⟨s.toks, ?_⟩, q⟩
    show Value.int (((bs.map Value.bool).countP (eqb b) : Nat) : Int) s.toks = _
    rw [eqb_count]
section
variable {K : PySem.W.Frag} {X : WX} {env env1 env2 : List SV} {ta tb tc te tl : TE} {t u ts : TS} {tt : TT} {d e : PyData} {i j : Int} {xs ys ds : List PyData} {oc : Oc} {c : Value}
theorem dpa_bls : ∀ {ns : List Bool} {H : Hp} {vs : List V}, DpAll K H vs (ns.map PyData.bool) → vs = ns.map V.bl
  | [], _, _, h => by cases h; rfl
  | n :: r, _, _, h => by
    cases h with
    | cons a b => cases a; rw [dpa_bls b]; rfl
theorem ev_cntB {bs : List Bool} {b : Bool} (ha : EvL K ta env (bs.map .bool)) (hb : Ev K tb env (.bool b)) : Ev K (tBM K "list" (rCntB K) ta (tCons tb tNil)) env (.int (bs.count b : Nat)) := fun σ H H1 st Q q =>
  ha σ H H1 st _ fun p vs G H2 f h2 dv => ⟨.inl ⟨rfl, _, .inl (.inl h2)⟩, hb σ G H2 (st.mono f) _ fun v G3 H3 f3 d3 => by
    cases d3
    have e := dpa_bls dv
    subst e
    exact ⟨p, bs, b, rfl, rfl, .inl (.inl (f3.a _ _ h2)), q _ G3 H3 (f.tr0 f3) (.int _)⟩⟩
/-! ### several excepts -/
/-- the suite that takes c -/
inductive Cat (K : PySem.W.Frag) (c : Value) : List (Value × (Addr → Value → Option Addr → TS)) → (Addr → Value → Option Addr → TS) → Prop where
  | here {cl : Value} {ts : Addr → Value → Option Addr → TS} {r : List (Value × (Addr → Value → Option Addr → TS))} : PySem.W.exmOne K c cl = some true → Cat K c ((cl, ts) :: r) ts
  | next {cl : Value} {ts tt : Addr → Value → Option Addr → TS} {r : List (Value × (Addr → Value → Option Addr → TS))} : PySem.W.exmOne K c cl = some false → Cat K c r ts → Cat K c ((cl, tt) :: r) ts
theorem wmany_cat {D : Ends} {σ : L2.St} {H : Hp} {l : List (Value × (Addr → Value → Option Addr → TS))} {ts : Addr → Value → Option Addr → TS} (h : Cat K c l ts) (k : ∀ a, H a = none → ts a c none D σ H) : wMany K X D l c none σ H := by
  induction h with
  | here e => exact ⟨true, e, fun _ => k, fun z => nomatch z⟩
  | next e _ ih => exact ⟨false, e, (fun z => nomatch z), fun _ => ih k⟩
theorem sx_trym_ok {l : List (Value × (Addr → Value → Option Addr → TS))} {tbb : WX → TS} (h : ∀ X', Sx K X' (tbb X') env oc) (e : oc.isEx = false) : Sx K X (fun D σ H => tbb (wMany K X D l) D σ H) env oc := fun σ H H1 st D q =>
  h _ σ H H1 st D (q.wx e)
theorem sx_trym_ex {l : List (Value × (Addr → Value → Option Addr → TS))} {tbb : WX → TS} {tss : Addr → Value → Option Addr → TS} (h : ∀ X', Sx K X' (tbb X') env (.ex c env1)) (hm : Cat K c l tss) (hs : ∀ a, Sx K X (tss a c none) env1 oc) : Sx K X (fun D σ H => tbb (wMany K X D l) D σ H) env oc := fun σ H H1 st D q =>
  h _ σ H H1 st D fun σ' G H2 f st' o => wmany_cat hm fun a _ => hs a σ' G H2 st' D (q.tr f o)
/-! ### the exception's own name -/
theorem Stt.setRaw {H H1 : Hp} {σ : L2.St} (h : Stt K H H1 σ env) {i : Nat} {a : Addr} (ha : H1 a = none) : Stt K H H1 (σ.set i (some (.ref a))) (env.set i (.raw (.ref a))) :=
  h.setO (show some (V.ref a) = some (V.ref a) from rfl) fun j s b1 b2 _ z => (h.owned ⟨j, s, b1, b2, z⟩).2 ha
theorem sx_tryas {cl : Value} {n : Nat} {tbb : WX → TS} {tss : Addr → Value → Option Addr → TS} (h : ∀ X', Sx K X' (tbb X') env (.ex c env1)) (hm : PySem.W.exmOne K c cl = some true)
    (hs : ∀ a, Sx K X (tss a c none) (env1.set n (.raw (.ref a))) (.rt d)) : Sx K X (fun D σ H => tbb (wAs K cl n tss X D) D σ H) env (.rt d) :=
  fun σ H H1 st D q => h _ σ H H1 st D fun σ' G H2 f st' o => ⟨true, hm, fun _ a ha => hs a _ G H2 (st'.setRaw ha) _ fun v G3 H3 f3 d3 => q v G3 H3 (f.trans f3 fun p z => by
    rcases Ow.set z with z | ⟨z, _⟩
    · exact o p z
    · cases z) d3, fun z => nomatch z⟩
/-- isinstance(e, c), e the exception that the suite holds -/
def rIsY (K : PySem.W.Frag) (a : Addr) (cls : Value) (dd : Option Addr) : List V → Hp → VK → Prop := fun xs H Q => ∃ D, ExcC K D ∧ (cls = .ref D ∧ dd = none) ∧ rIsE K D a xs H Q
theorem call_isY {X : Cx} {a : Addr} {oe : Obj} {cls : Value} {dd : Option Addr} {pn : List (Addr × Obj)} (hz : Zc cls dd oe) (hf : ∃ vs, oe.data = .fields vs) : CallR (X.suite a ((a, oe) :: pn)) (.builtin "isinstance") (rIsY X.K a cls dd) := by
  intro pins s σ H xs us Q I r h
  obtain ⟨D, C, ⟨rfl, rfl⟩, h⟩ := h
  exact call_isE C hz hf pins s σ H xs us Q I r h
/-- a value that is told as it is -/
def Er (K : PySem.W.Frag) (te : TE) (env : List SV) (v : V) : Prop := ∀ σ H H1, Stt K H H1 σ env → ∀ Q : VK, (∀ G H2, Fr0 H H1 G H2 → Q v H2) → te σ H1 Q
theorem er_var {i : Nat} {v : V} (h : env[i]? = some (.raw v)) : Er K (tVar i) env v := fun σ H H1 st Q q => by
  obtain ⟨o, a, b⟩ := st.get h
  have b' : o = some v := b
  subst b'
  exact ⟨v, a, q H H1 (Fr.refl st.e)⟩
theorem er_c {v : V} : Er K (tC v) env v := fun σ H H1 st Q q => q H H1 (Fr.refl st.e)
theorem ev_isY {a D : Addr} {v : V} {cv : Value} {b : Bool} (ha : Er K ta env (.ref a)) (hb : Er K tb env v) (hE : ExcC K D) (hv : ∀ u, L2.RelV v u → u = cv) (hk : PySem.W.kitOne K (.ref D) cv = some b) : Ev K (tCB (rIsY K a (.ref D) none) (tCons ta (tCons tb tNil))) env (.bool b) := fun σ H H1 st Q q =>
  ha σ H H1 st _ fun G H2 f => hb σ G H2 (st.mono f) _ fun G3 H3 f3 => ⟨D, hE, ⟨rfl, rfl⟩, v, cv, b, rfl, hv, hk, q _ G3 H3 (f.tr0 f3) (.bl b)⟩
/-! ### less of what an exception finds -/
theorem sx_ex_less (l : Less env2 env1) (k : Sx K X t env (.ex c env1)) : Sx K X t env (.ex c env2) := fun σ H H1 st D q =>
  k σ H H1 st D fun σ' G H2 f st' o => q σ' G H2 f (st'.less l.len l.at) fun p z => by
    obtain ⟨j, s, a, b, c⟩ := z
    rcases l.at j s a with y | y
    · subst y; cases b
    · exact o p ⟨j, s, y, b, c⟩
/-! ### for x, y in zip(a, b) -/
theorem sx_forZ {ds es : List PyData} {g : TG} {n : Nat} (h : Ev K ta env (.list ds)) (h' : Ev K tb env (.list es)) (hn : n = min ds.length es.length) (Inv : Nat → List SV) (h0 : Inv 0 = env) (o : Nat → Bool) (ex : Oc) (hx : ex.isNx = false) (hb : ∀ e, ex ≠ .bk e) (hc : ∀ e, ex ≠ .ct e)
    (go : ∀ (i : Nat) (d e : PyData), i < n → ds[i]? = some d → es[i]? = some e → (∀ j, j < i → o j = false) → ∃ env', Tg K g (Inv i) (.tuple [d, e]) env' ∧ ((o i = false → Go K X t env' (Inv (i + 1))) ∧ (o i = true → oc = ex ∧ Sx K X t env' ex)))
    (rest : (∀ j, j < n → o j = false) → Sx K X u (Inv n) oc) : Sx K X (tSeq (tFor (iZip K (tCons ta (tCons tb tNil))) g t) u) env oc := fun σ H H1 st D q => by
  refine h σ H H1 st _ fun v1 G1 H2 f1 dv1 => h' σ G1 H2 (st.mono f1) _ fun v2 G0 H3 f2 dv2 => ?_
  have dv1' := dm f2.g dv1
  have ff := f1.tr0 f2
  clear dv1
  cases dv1' with
  | @lst a vs _ hl hd =>
    cases dv2 with
    | @lst b ws _ hl' hd' =>
      have f' : Fr (Ow σ env) H H1 G0 H3 := ff.mono fun _ z => z.elim
      have l1 : vs.length = ds.length := dpa_len hd
      have l2 : ws.length = es.length := dpa_len hd'
      refine ⟨a, b, vs, ws, rfl, ff.r.seq hl, ff.r.seq hl', fun i m σ' H' => m = n - i ∧ i ≤ n ∧ Pt K (Ow σ env) G0 H3 Inv i σ' H' ∧ ∀ j, j < i → o j = false, ⟨n, rfl, Nat.zero_le _, ⟨G0, Fr.refl ff.r, by rw [h0]; exact st.mono ff, fun l z => .inl (by rw [h0] at z; exact z)⟩, fun j hj => absurd hj (Nat.not_lt_zero j)⟩, ?_⟩
      rintro i m σ' H' ⟨rfl, hi, ⟨G, fr, st2, ow⟩, hj⟩
      have s1 : SqL K H' a vs := fr.r.seq (fr.g.seq hl)
      have s2 : SqL K H' b ws := fr.r.seq (fr.g.seq hl')
      by_cases hlt : i < n
      · have i1 : i < vs.length := by omega
        have i2 : i < ws.length := by omega
        have i3 : i < ds.length := by omega
        have i4 : i < es.length := by omega
        refine .inr ⟨⟨vs, ws, vs[i], ws[i], s1, s2, List.getElem?_eq_getElem i1, List.getElem?_eq_getElem i2⟩, fun σ' H' => Pt K (Ow σ env) G0 H3 Inv (i + 1) σ' H' ∧ ∀ j, j < i + 1 → o j = false, fun σ2 Hx p => ⟨n - (i + 1), by omega, rfl, hlt, p⟩, fun x Hx y => ?_⟩
        obtain ⟨Tn, x1, x2, rfl, hT, rfl, y1, y2⟩ := y
        obtain ⟨d1, e1, e2⟩ := dpa_get hd (y1 vs s1)
        obtain ⟨d2, e3, e4⟩ := dpa_get hd' (y2 ws s2)
        obtain ⟨env', tg, g1, g2⟩ := go i d1 d2 hlt e1 e3 hj
        have fT : Fr0 G H' (upd G Tn (.tup [x1, x2])) (upd H' Tn (.tup [x1, x2])) := Fr.new fr.r hT
        have fr2 : Fr (Ow σ env) G0 H3 (upd G Tn (.tup [x1, x2])) (upd H' Tn (.tup [x1, x2])) := fr.tr0 fT
        refine tg σ' _ _ (.ref Tn) (st2.mono fT) (.tup (.inl (.inl upd_same)) (.cons (dm fr2.g e2) (.cons (dm fr2.g e4) .nil))) _ fun σ2 st3 o3 => ?_
        have ow3 : ∀ l, Ow σ2 env' l → Ow σ env l ∨ H3 l = none := fun l z => ow l (o3 l z)
        cases hoi : o i with
        | false =>
          have nx : ∀ σ3 G3 Hy, Fr (Ow σ2 env') (upd G Tn (.tup [x1, x2])) (upd H' Tn (.tup [x1, x2])) G3 Hy → Stt K G3 Hy σ3 (Inv (i + 1)) → (∀ l, Ow σ3 (Inv (i + 1)) l → Ow σ2 env' l ∨ (upd H' Tn (.tup [x1, x2])) l = none) → Pt K (Ow σ env) G0 H3 Inv (i + 1) σ3 Hy ∧ ∀ j, j < i + 1 → o j = false := fun σ3 G3 Hy f3 st4 o4 =>
            ⟨⟨G3, fr2.trans f3 ow3, st4, fun l z => (o4 l z).elim (ow3 l) fun z => .inr (fr2.m l z)⟩, fun j hj' => by
              rcases Nat.lt_succ_iff_lt_or_eq.mp hj' with z | z
              · exact hj j z
              · rw [z]; exact hoi⟩
          rcases g1 hoi with w | w
          · exact w σ2 _ _ st3 _ nx
          · exact w σ2 _ _ st3 _ nx
        | true =>
          obtain ⟨eo, w⟩ := g2 hoi
          refine w σ2 _ _ st3 _ ?_
          have q' : OcOk K X (Ow σ2 env') D (upd G Tn (.tup [x1, x2])) (upd H' Tn (.tup [x1, x2])) ex := by
            rw [eo] at q
            refine (q.tr f' fun l z => .inl z).tr fr2 ow3
          cases ex with
          | nx e => cases hx
          | bk e => exact absurd rfl (hb e)
          | ct e => exact absurd rfl (hc e)
          | ex c e => exact q'
          | rt d => exact q'
          | rl x => exact q'
          | rr v => exact q'
          | rw vs e => exact q'
      · have ei : i = n := by omega
        subst ei
        refine .inl ⟨⟨vs, ws, s1, s2, by omega⟩, ?_⟩
        exact rest hj σ' G H' st2 D ((q.tr f' fun l z => .inl z).tr fr ow)
end
end Pf

namespace Pf
open PySem PySem.Spec PyProof.Rows L2
/-! ### list(range(n)) -/
theorem vals_of : ∀ (xs : List V) (us : List Value), xs.length = us.length → (∀ (i : Nat) x u, xs[i]? = some x → us[i]? = some u → L2.RelV x u) → Vals xs us
  | [], [], _, _ => .nil
  | [], _ :: _, h, _ => by cases h
  | _ :: _, [], h, _ => by cases h
  | x :: xs, u :: us, h, k => .cons (k 0 x u rfl rfl) (vals_of xs us (Nat.succ.inj h) fun i y v e1 e2 => k (i + 1) y v (by simpa using e1) (by simpa using e2))
def rRng1 : List V → Hp → VK → Prop := fun vs H Q => ∃ j, vs = [V.int j] ∧ ∀ p : Addr, H p = none → Q (.ref p) (upd H p (.rng 0 j))
theorem cr_range1 {X : Cx} : CallR X (.type "range") rRng1 := by
  intro pins s σ H vs us Q I r h
  obtain ⟨j, rfl, q⟩ := h
  obtain ⟨u, rfl, ru⟩ := Vals.one r
  obtain ⟨t, rfl⟩ := ru
  refine call_range_1 ⟨.ref _, _, I.laid (t' := s.toks + 1 + 1) (o := .rng 0 j) (fun b o e => Heap.get?_push_of_some _ e) (Nat.le_refl _) ⟨_, _, _, Heap.get?_push_size s.heap rfl⟩, rfl, q _ (I.hok.fresh (Nat.le_refl _))⟩
/-- 0, 1, .. -/
def upV (n : Nat) : List V := (List.range n).map fun (k : Nat) => V.int (k : Int)
def rLstR : List V → Hp → VK → Prop := fun vs H Q => ∃ (p : Addr) (n : Nat), vs = [.ref p] ∧ H p = some (.rng 0 (n : Int)) ∧ n ≤ 100000 ∧ ∀ l, H l = none → Q (.ref l) (upd H l (.lst (upV n)))
theorem call_list_rng {X : Cx} (hc : X.calm = true) : CallR X (.type "list") rLstR := by
  intro pins s σ H vs us Q I r h
  obtain ⟨p, n, rfl, hp, hn, q⟩ := h
  rw [Vals.ref1 r]
  obtain ⟨t1, t2, t3, ho⟩ := I.hok p _ hp
  refine call_list_range (n := n) (I.ok.hd hc) ho ?_ ?_ (Nat.le_trans hn (by decide)) fun h' tk acc c keep e its => ?_
  · have hs : Builtin.Range.rangeSize 0 (n : Int) 1 = (n : Int) := by
      unfold Builtin.Range.rangeSize; simp; omega
    have fl : ∀ k : Int, 0 ≤ k → k ≤ 100000 → Builtin.Range.rangeFitsLong k = true := fun k h0 h1 => by
      unfold Builtin.Range.rangeFitsLong; simp; omega
    unfold Builtin.Range.small
    simp [hs, fl 0 (by decide) (by decide), fl 1 (by decide) (by decide), fl (n : Int) (by omega) (by omega)]
  · unfold Builtin.Range.rangeSize; simp; omega
  · have hz : (upV n).length = n := by unfold upV; rw [List.length_map, List.length_range]
    refine ⟨.ref _, _, I.laid (t' := tk) keep (Nat.le_refl _) (o := .lst (upV n)) ⟨by rw [hz]; exact sz_ok hn, acc.toList, c, vals_of _ _ (by rw [hz, Array.length_toList]; exact its.1.symm) fun i x u e1 e2 => ?_, by simpa using e⟩, rfl, q _ (I.hok.fresh (Nat.le_refl _))⟩
    obtain ⟨t, rfl⟩ := its.2 i u (by simpa using e2)
    unfold upV at e1
    rw [List.getElem?_map] at e1
    cases ei : (List.range n)[i]? with
    | none => rw [ei] at e1; cases e1
    | some k =>
      rw [ei] at e1
      obtain rfl := Option.some.inj e1
      have : k = i := by
        have := List.getElem?_eq_some_iff.mp ei
        obtain ⟨h1, h2⟩ := this
        simpa using h2.symm
      subst this
      exact ⟨t, by simp⟩
theorem exm_of {K : PySem.W.Frag} {c e : Addr} {v : Bool} (h1 : PySem.W.subIn K (.ref c) (.type "BaseException") = some true) (h2 : PySem.W.isClsIn K c = true) (h3 : PySem.W.typeIn K (.ref c) = some (.type "type")) (h4 : PySem.W.subIn K (.ref e) (.ref c) = some v) : PySem.W.exmOne K (.ref e) (.ref c) = some v := by
  have q1 : (PySem.W.subIn K (.ref c) (.type "BaseException") == some true) = true := by rw [h1]; rfl
  have q2 : ((PySem.W.clsIn K c).isSome && PySem.W.typeIn K (.ref c) == some (.type "type")) = true := by
    have : (PySem.W.clsIn K c).isSome = true := h2
    rw [this, h3]; rfl
  show (if (PySem.W.subIn K (.ref c) (.type "BaseException") == some true) = true then (if ((PySem.W.clsIn K c).isSome && PySem.W.typeIn K (.ref c) == some (.type "type")) = true then PySem.W.subIn K (.ref e) (.ref c) else none) else none) = some v
  rw [if_pos q1, if_pos q2]; exact h4
section
variable {K : PySem.W.Frag} {env : List SV} {ta : TE}
/-- list(range(n)) -/
theorem eo_listR {n : Nat} (ha : Ev K ta env (.int (n : Int))) (hn : n ≤ 100000) : EvO K (tCB rLstR (tCons (tCB rRng1 (tCons ta tNil)) tNil)) env ((List.range n).map fun (k : Nat) => PyData.int (k : Int)) := fun σ H H1 st Q q =>
  ha σ H H1 st _ fun v G H2 f d => by
    cases d
    refine ⟨n, rfl, fun p hp => ⟨p, n, rfl, upd_same, hn, fun l hl => ?_⟩⟩
    have f2 : Fr0 G H2 G (upd H2 p (.rng 0 (n : Int))) := Fr.hid f.r hp
    have f3 : Fr0 G (upd H2 p (.rng 0 (n : Int))) G (upd (upd H2 p (.rng 0 (n : Int))) l (.lst (upV n))) := Fr.hid f2.r hl
    have hl2 : H2 l = none := upd_none hl
    refine q l (upV n) G _ ((f.tr0 f2).tr0 f3) (f.m l hl2) (f.r.free hl2) upd_same ?_
    have e : ∀ ks : List Nat, DpAll K G (ks.map fun (k : Nat) => V.int (k : Int)) (ks.map fun (k : Nat) => PyData.int (k : Int)) := fun ks => by
      induction ks with
      | nil => exact .nil
      | cons k r ih => exact .cons (.int _) ih
    exact e _
/-- sorted([a, b]) -/
theorem eo_sorted2 {a b : Int} (ha : EvL K ta env [.int a, .int b]) : EvO K (tCB (rSorted K) (tCons ta tNil)) env [.int (if a ≤ b then a else b), .int (if a ≤ b then b else a)] := fun σ H H1 st Q q =>
  ha σ H H1 st _ fun p vs G H2 f h2 dv => by
    have e := dpa_ints (ns := [a, b]) dv
    subst e
    refine ⟨p, [a, b], rfl, .inl (.inl h2), Nat.le_of_ble_eq_true rfl, fun ns' r hp hs hr => ?_⟩
    have e : ns' = [(if a ≤ b then a else b), (if a ≤ b then b else a)] := by
      have hl := hp.length_eq
      match ns', hl with
      | [x, y], _ =>
        have h1 : x ≤ y := (List.pairwise_cons.mp hs).1 y (by simp)
        have m1 : x ∈ [a, b] := hp.mem_iff.mp (by simp)
        have m2 : y ∈ [a, b] := hp.mem_iff.mp (by simp)
        have m3 : a ∈ [x, y] := hp.mem_iff.mpr (by simp)
        have m4 : b ∈ [x, y] := hp.mem_iff.mpr (by simp)
        simp only [List.mem_cons, List.not_mem_nil, or_false] at m1 m2 m3 m4
        by_cases c : a ≤ b
        · rw [if_pos c, if_pos c]
          have : x = a ∧ y = b := by omega
          rw [this.1, this.2]
        · rw [if_neg c, if_neg c]
          have : x = b ∧ y = a := by omega
          rw [this.1, this.2]
    subst e
    refine q r _ G _ (f.tr0 (Fr.hid f.r hr)) (f.a.free hr) (f.r.free hr) upd_same ?_
    exact .cons (.int _) (.cons (.int _) .nil)
end
end Pf
namespace Pf
open PySem PySem.Spec PyProof.Rows L2
section
variable {K : PySem.W.Frag} {X : WX} {env env1 : List SV} {ta : TE} {t : TS} {oc : Oc} {xs : List PyData}
/-- any(a list of truth values) -/
theorem ev_any {bs : List Bool} (ha : EvL K ta env (bs.map .bool)) : Ev K (tCB (rAny K) (tCons ta tNil)) env (.bool (bs.any id)) := fun σ H H1 st Q q =>
  ha σ H H1 st _ fun p vs G H2 f h2 dv => by
    have e := dpa_bls dv
    subst e
    exact ⟨p, bs, rfl, .inl (.inl h2), q _ G H2 f (.bl _)⟩
/-- xs[1:] -/
theorem cutD_from (xs : List PyData) (a : Nat) : cutD xs (some (a : Int)) none = xs.drop a := by
  unfold cutD
  rw [HT.sIx_nat]
  have e : HT.sIx xs.length xs.length none = xs.length := rfl
  rw [e]
  by_cases c : a ≤ xs.length
  · rw [Nat.min_eq_left c]
    exact List.take_of_length_le (by rw [List.length_drop]; omega)
  · have e1 : xs.drop a = [] := List.drop_eq_nil_of_le (by omega)
    have e2 : xs.drop (min a xs.length) = [] := List.drop_eq_nil_of_le (by omega)
    rw [e1, e2, List.take_nil]
theorem sx_last (h : Sx K X (tSeq t tNext) env oc) : Sx K X t env oc := h
end
end Pf
namespace Pf
open PySem PySem.Spec PyProof.Rows L2
theorem sx_raise {K : PySem.W.Frag} {X : WX} {env : List SV} {c : Value} : Sx K X (fun _ σ H => X c none σ H) env (.ex c env) := fun σ H H1 st D q => q σ H H1 (Fr.refl st.e) st fun l z => .inl z
end Pf
namespace Pf
open PySem PySem.Spec PyProof.Rows L2
section
variable {K : PySem.W.Frag} {X : WX} {env env1 : List SV} {ta : TE} {t u : TS} {oc : Oc} {xs : List PyData}
/-- for over range(a, b), a turn may end the whole -/
theorem sx_forR2E {n : Nat} {aa : TA} {g : TG} {lo k : Int} (h : EvA K aa env [.int lo, .int k]) (hk : -100000 ≤ k ∧ k ≤ 100000) (hlo : -100000 ≤ lo ∧ lo ≤ 100000) (hn : (k - lo).toNat = n) (Inv : Nat → List SV) (h0 : Inv 0 = env) (o : Nat → Bool) (ex : Oc) (hx : ex.isNx = false) (hb : ∀ e, ex ≠ .bk e) (hc : ∀ e, ex ≠ .ct e)
    (go : ∀ i : Nat, i < n → (∀ j, j < i → o j = false) → ∃ env', Tg K g (Inv i) (.int (lo + i)) env' ∧ ((o i = false → Go K X t env' (Inv (i + 1))) ∧ (o i = true → oc = ex ∧ Sx K X t env' ex)))
    (rest : (∀ j, j < n → o j = false) → Sx K X u (Inv n) oc) : Sx K X (tSeq (tFor (iRng2 aa) g t) u) env oc := fun σ H H1 st D q => by
  refine h σ H H1 st _ fun vs G0 H2 f dv => ?_
  cases dv with
  | cons a b =>
    cases b with
    | cons b c =>
      cases c; cases a; cases b
      have f' : Fr (Ow σ env) H H1 G0 H2 := f.mono fun _ z => z.elim
      refine ⟨lo, k, rfl, by omega, for_range (lo := lo) (n := (k - lo).toNat) (fun i σ' H' => Pt K (Ow σ env) G0 H2 Inv i σ' H' ∧ ∀ j, j < i → o j = false) ⟨⟨G0, Fr.refl f.r, by rw [h0]; exact st.mono f, fun l z => .inl (by rw [h0] at z; exact z)⟩, fun j hj => absurd hj (Nat.not_lt_zero j)⟩ (fun i σ' H' hi p => ?_) (fun σ' H' p => ?_)⟩
      · obtain ⟨⟨G, f2, st2, ow⟩, hj⟩ := p
        obtain ⟨env', tg, g1, g2⟩ := go i (by omega) hj
        refine tg σ' G H' _ st2 (.int _) _ fun σ2 st3 o3 => ?_
        have ow3 : ∀ l, Ow σ2 env' l → Ow σ env l ∨ H2 l = none := fun l z => ow l (o3 l z)
        cases hoi : o i with
        | false =>
          have nx : ∀ σ3 G3 H3, Fr (Ow σ2 env') G H' G3 H3 → Stt K G3 H3 σ3 (Inv (i + 1)) → (∀ l, Ow σ3 (Inv (i + 1)) l → Ow σ2 env' l ∨ H' l = none) → Pt K (Ow σ env) G0 H2 Inv (i + 1) σ3 H3 ∧ ∀ j, j < i + 1 → o j = false := fun σ3 G3 H3 f3 st4 o4 =>
            ⟨⟨G3, f2.trans f3 ow3, st4, fun l z => (o4 l z).elim (ow3 l) fun z => .inr (f2.m l z)⟩, fun j hj' => by
              rcases Nat.lt_succ_iff_lt_or_eq.mp hj' with z | z
              · exact hj j z
              · rw [z]; exact hoi⟩
          rcases g1 hoi with w | w
          · exact w σ2 G H' st3 _ nx
          · exact w σ2 G H' st3 _ nx
        | true =>
          obtain ⟨eo, w⟩ := g2 hoi
          refine w σ2 G H' st3 _ ?_
          have q' : OcOk K X (Ow σ2 env') D G H' ex := by
            rw [eo] at q
            refine (q.tr f' fun l z => .inl z).tr f2 ow3
          cases ex with
          | nx e => cases hx
          | bk e => exact absurd rfl (hb e)
          | ct e => exact absurd rfl (hc e)
          | ex c e => exact q'
          | rt d => exact q'
          | rl x => exact q'
          | rr v => exact q'
          | rw vs e => exact q'
      · obtain ⟨⟨G, f2, st2, ow⟩, hj⟩ := p
        rw [hn] at st2 ow hj
        exact rest hj σ' G H' st2 D ((q.tr f' fun l z => .inl z).tr f2 ow)
end
end Pf
namespace Pf
open PySem PySem.Spec PyProof.Rows L2
theorem turn_by {K : PySem.W.Frag} {X : WX} {env env2 : List SV} {t : TS} {oc oc' ex : Oc} {b : Bool} (h : Sx K X t env oc') (h0 : b = false → oc' = .nx env2) (h1 : b = true → oc = ex ∧ oc' = ex) : (b = false → Go K X t env env2) ∧ (b = true → oc = ex ∧ Sx K X t env ex) :=
  ⟨fun z => .inl (h.to (h0 z)), fun z => ⟨(h1 z).1, h.to (h1 z).2⟩⟩
end Pf
namespace Pf
open PySem PySem.Spec PyProof.Rows L2
theorem te_K {X : Cx} {K : PySem.W.Frag} {e : Expr} {T : String} {r : V → List V → Hp → VK → Prop} {o : TE} {t : TA} (h : PE X e (tBM X.K T r o t)) (hK : X.K = K) : PE X e (tBM K T r o t) := hK ▸ h
end Pf

namespace Pf
open PySem PySem.Spec PyProof.Rows L2
section
variable {K : PySem.W.Frag} {X : WX} {env env1 env2 : List SV} {ta tb tc te tl ti : TE} {aa : TA} {t u ts : TS} {tt : TT} {d e : PyData} {i j k : Nat} {xs ys ds : List PyData} {oc : Oc} {P : Oc → Prop} {H H1 G H2 : Hp} {σ : L2.St} {l : Addr} {v w : V} {vs : List V}
/-- a slot is told otherwise -/
theorem Stt.re {s s' : SV} (h : Stt K H H1 σ env) (hi : env[i]? = some s) (ok : ∀ o, σ[i]? = some o → OkS K H H1 o s → OkS K H H1 o s') (ow : s'.isOwn = true → s.isOwn = true) : Stt K H H1 σ (env.set i s') := by
  have hl : i < env.length := (List.getElem?_eq_some_iff.mp hi).1
  have own : ∀ (j : Nat) z, (env.set i s')[j]? = some z → z.isOwn = true → ∃ z', env[j]? = some z' ∧ z'.isOwn = true := fun j z b o => by
    by_cases c : i = j
    · subst c
      rw [List.getElem?_set_self hl] at b; cases b
      exact ⟨s, hi, ow o⟩
    · rw [List.getElem?_set_ne c] at b
      exact ⟨z, b, o⟩
  refine ⟨h.e, by rw [List.length_set]; exact h.l, fun j o z a b => ?_, fun j k z z' l hjk b1 b2 o1 o2 a1 => ?_⟩
  · by_cases c : i = j
    · subst c
      rw [List.getElem?_set_self hl] at b; cases b
      exact ok o a (h.ok i o s a hi)
    · rw [List.getElem?_set_ne c] at b
      exact h.ok j o z a b
  · obtain ⟨y, e1, e2⟩ := own j z b1 o1
    obtain ⟨y', e3, e4⟩ := own k z' b2 o2
    exact h.ne j k y y' l hjk e1 e3 e2 e4 a1
theorem Ow.re {s s' : SV} (hi : env[i]? = some s) (ow : s'.isOwn = true → s.isOwn = true) {p : Addr} (z : Ow σ (env.set i s') p) : Ow σ env p := by
  have hl : i < env.length := (List.getElem?_eq_some_iff.mp hi).1
  obtain ⟨j, y, a, b, c⟩ := z
  by_cases e : i = j
  · subst e
    rw [List.getElem?_set_self hl] at a; cases a
    exact ⟨i, s, hi, ow b, c⟩
  · rw [List.getElem?_set_ne e] at a
    exact ⟨j, y, a, b, c⟩
theorem Stt.ownA (st : Stt K H H1 σ env) (h : env[i]? = some (.ownA l xs)) : ∃ vs, σ[i]? = some (some (.ref l)) ∧ H l = none ∧ H1 l = some (.lst vs) ∧ DpAll K H vs xs := by
  obtain ⟨o, a, b⟩ := st.get h
  obtain ⟨rfl, vs, c⟩ := b
  exact ⟨vs, a, c⟩
/-- a slot takes what is not its own -/
theorem Stt.setV {s₀ : SV} (h : Stt K H H1 σ env) (h0 : s₀.isOwn = false) (ok : OkS K H H1 (some v) s₀) : Stt K H H1 (σ.set i (some v)) (env.set i s₀) := by
  refine ⟨h.e, by rw [List.length_set, List.length_set]; exact h.l, fun j o s a b => ?_, fun j k s t l hjk b1 b2 o1 o2 a1 => ?_⟩
  · by_cases c : i = j
    · subst c
      have hi : i < σ.length := by have := (List.getElem?_eq_some_iff.mp a).1; rwa [List.length_set] at this
      have hi' : i < env.length := by rw [← h.l]; exact hi
      rw [List.getElem?_set_self hi] at a
      rw [List.getElem?_set_self hi'] at b
      cases a; cases b
      exact ok
    · rw [List.getElem?_set_ne c] at a b
      exact h.ok j o s a b
  · have c1 : i ≠ j := fun c => by
      subst c
      have hi' : i < env.length := by have := (List.getElem?_eq_some_iff.mp b1).1; rwa [List.length_set] at this
      rw [List.getElem?_set_self hi'] at b1
      cases b1; rw [h0] at o1; cases o1
    have c2 : i ≠ k := fun c => by
      subst c
      have hi' : i < env.length := by have := (List.getElem?_eq_some_iff.mp b2).1; rwa [List.length_set] at this
      rw [List.getElem?_set_self hi'] at b2
      cases b2; rw [h0] at o2; cases o2
    rw [List.getElem?_set_ne c1] at a1 b1
    rw [List.getElem?_set_ne c2] at b2 ⊢
    exact h.ne j k s t l hjk b1 b2 o1 o2 a1
/-- one's own list gets its place's name -/
theorem sn_name (i : Nat) (h : env[i]? = some (.own xs)) (k : ∀ l, Sn K X t (env.set i (.ownA l xs)) P) : Sn K X t env P := fun σ H H1 st D q => by
  obtain ⟨l, vs, a, b, c, dv⟩ := st.own h
  have st' : Stt K H H1 σ (env.set i (.ownA l xs)) := st.re h (fun o e _ => by
    rw [a] at e; cases e
    exact ⟨rfl, vs, b, c, dv⟩) fun _ => rfl
  exact k l σ H H1 st' D fun oc p => (q oc p).tr (Fr.refl st.e) fun p z => .inl (Ow.re h (fun _ => rfl) z)
/-! values as they are -/
theorem er_own (h : env[i]? = some (.ownA l xs)) : Er K (tVar i) env (.ref l) := fun σ H H1 st Q q => by
  obtain ⟨vs, a, _⟩ := st.ownA h
  exact ⟨_, a, q H H1 (Fr.refl st.e)⟩
theorem er_dat (h : env[i]? = some (.dat d)) (hv : fv d = some v) : Er K (tVar i) env v := fun σ H H1 st Q q => by
  obtain ⟨w, a, b⟩ := st.dat h
  cases dp_fv hv b
  exact ⟨_, a, q H H1 (Fr.refl st.e)⟩
theorem er_rd (h : env[i]? = some (.rd v d)) : Er K (tVar i) env v := fun σ H H1 st Q q => by
  obtain ⟨o, a, b⟩ := st.get h
  obtain ⟨rfl, _⟩ := b
  exact ⟨_, a, q H H1 (Fr.refl st.e)⟩
theorem ev_rd (h : env[i]? = some (.rd v d)) : Ev K (tVar i) env d := fun σ H H1 st Q q => by
  obtain ⟨o, a, b⟩ := st.get h
  obtain ⟨rfl, b⟩ := b
  exact ⟨_, a, q _ H H1 (Fr.refl st.e) b⟩
theorem Stt.tupv (st : Stt K H H1 σ env) (h : env[i]? = some (.tupv vs)) : ∃ p, σ[i]? = some (some (.ref p)) ∧ SqT K H p vs := by
  obtain ⟨o, a, b⟩ := st.get h
  obtain ⟨p, rfl, c⟩ := b
  exact ⟨p, a, c⟩
theorem er_tix {n : Int} (h : env[i]? = some (.tupv vs)) (hn : atI vs n = some v) : Er K (tOp (rIxT K) (tVar i) (tC (.int n))) env v := fun σ H H1 st Q q => by
  obtain ⟨p, a, c⟩ := st.tupv h
  exact ⟨_, a, _, _, n, v, rfl, rfl, sqt st.e c, hn, q H H1 (Fr.refl st.e)⟩
def ErA (K : PySem.W.Frag) (ta : TA) (env : List SV) (vs : List V) : Prop := ∀ σ H H1, Stt K H H1 σ env → ∀ Q : List V → Hp → Prop, (∀ G H2, Fr0 H H1 G H2 → Q vs H2) → ta σ H1 Q
theorem era_nil : ErA K tNil env [] := fun σ H H1 st Q q => q H H1 (Fr.refl st.e)
theorem era_cons {tr : TA} (ha : Er K ta env v) (hr : ErA K tr env vs) : ErA K (tCons ta tr) env (v :: vs) := fun σ H H1 st Q q =>
  ha σ H H1 st _ fun G H2 f => hr σ G H2 (st.mono f) _ fun G3 H3 f3 => q G3 H3 (f.tr0 f3)
/-- (a, b, ..), told as it is -/
theorem sx_setT (h : ErA K aa env vs) (hl : vs.length ≤ 100000) : Sx K X (tAsg (tTup aa) (gName i)) env (.nx (env.set i (.tupv vs))) := fun σ H H1 st D q =>
  h σ H H1 st _ fun G H2 f => ⟨sz_ok hl, fun p hp => by
    have n : Fr0 G H2 (upd G p (.tup vs)) (upd H2 p (.tup vs)) := Fr.new f.r hp
    have st2 := st.mono (f.tr0 n)
    refine q _ _ _ ((f.tr0 n).mono fun _ z => z.elim) (st2.setO (show OkS K (upd G p (.tup vs)) (upd H2 p (.tup vs)) (some (.ref p)) (.tupv vs) from ⟨p, rfl, .inl (.inl upd_same)⟩) fun j s b1 b2 _ z => ?_) fun l z => ?_
    · have h0 := (st.mono f).owned ⟨j, s, b1, b2, z⟩
      exact h0.2 hp
    · rcases Ow.set z with z | ⟨z, _⟩
      · exact .inl z
      · cases z⟩
theorem sx_retT (h : ErA K aa env vs) (hl : vs.length ≤ 100000) : Sx K X (tRet (tTup aa)) env (.rw vs env) := fun σ H H1 st D q =>
  h σ H H1 st _ fun G H2 f => ⟨sz_ok hl, fun p hp => by
    have n : Fr0 G H2 (upd G p (.tup vs)) (upd H2 p (.tup vs)) := Fr.new f.r hp
    exact q p σ _ _ ((f.tr0 n).mono fun _ z => z.elim) (.inl (.inl upd_same)) (st.mono (f.tr0 n)) fun l z => .inl z⟩
theorem sx_retR (h : Er K te env v) : Sx K X (tRet te) env (.rr v) := fun σ H H1 st D q =>
  h σ H H1 st _ fun G H2 f => q G H2 (f.mono fun _ z => z.elim)
theorem el_A (h : env[i]? = some (.ownA l xs)) : EvL K (tVar i) env xs := fun σ H H1 st Q q => by
  obtain ⟨vs, a, b, c, dv⟩ := st.ownA h
  exact ⟨_, a, q l vs H H1 (Fr.refl st.e) c dv⟩
theorem el_er (h : Er K te env (.ref l)) (h' : env[i]? = some (.ownA l xs)) : EvL K te env xs := fun σ H H1 st Q q =>
  h σ H H1 st _ fun G H2 f => by
    obtain ⟨vs, a, b, c, dv⟩ := (st.mono f).ownA h'
    exact q l vs G H2 f c dv
/-! writing to one's own -/
theorem Stt.write {s s' : SV} {o : HO} (st : Stt K H H1 σ env) (h : env[i]? = some s) (ho : s.isOwn = true) (a : σ[i]? = some (some (.ref l))) (ok : OkS K H (upd H1 l o) (some (.ref l)) s') (o' : s'.isOwn = true) :
    Stt K H (upd H1 l o) σ (env.set i s') ∧ Fr (Ow σ env) H H1 H (upd H1 l o) ∧ ∀ p, Ow σ (env.set i s') p → Ow σ env p := by
  have hw : Ow σ env l := ⟨i, _, h, ho, a⟩
  have b := (st.owned hw).1
  have hi : i < env.length := (List.getElem?_eq_some_iff.mp h).1
  have e2 : Same H (upd H1 l o) := fun p o z => by
    rw [upd_ne (ne_of_none z b)]; exact st.e p o z
  refine ⟨⟨e2, by rw [List.length_set]; exact st.l, fun j x z ea eb => ?_, fun j k z z' p hjk b1 b2 o1 o2 a1 => ?_⟩, ⟨Same.refl _, e2, fun p x nw z => ?_, fun p nw z _ => z, fun p z => upd_none z⟩, fun p z => Ow.re h (fun _ => ho) z⟩
  · by_cases ej : i = j
    · subst ej
      rw [a] at ea; cases ea
      rw [List.getElem?_set_self hi] at eb; cases eb
      exact ok
    · rw [List.getElem?_set_ne ej] at eb
      have okj := st.ok j x z ea eb
      cases z with
      | no => trivial
      | dat d => exact okj
      | own zs =>
        obtain ⟨l2, ws, q1, q2, q3, q4⟩ := okj
        subst q1
        have n : l2 ≠ l := fun z => st.ne i j _ _ l ej h eb ho rfl a (z ▸ ea)
        exact ⟨l2, ws, rfl, q2, by rw [upd_ne n]; exact q3, q4⟩
      | obj x =>
        obtain ⟨l2, q1, q2, q3⟩ := okj
        subst q1
        have n : l2 ≠ l := fun z => st.ne i j _ _ l ej h eb ho rfl a (z ▸ ea)
        exact ⟨l2, rfl, q2, by rw [upd_ne n]; exact q3⟩
      | raw v => exact okj
      | dct P w kvs =>
        obtain ⟨l2, ws, q1, q2, q3, q4⟩ := okj
        subst q1
        have n : l2 ≠ l := fun z => st.ne i j _ _ l ej h eb ho rfl a (z ▸ ea)
        exact ⟨l2, ws, rfl, q2, by rw [upd_ne n]; exact q3, q4⟩
      | dcf P w kvs => exact okj
      | kep n xs ys => exact okj
      | rd v d => exact okj
      | tupv ws => exact okj
      | ownA l2 zs =>
        obtain ⟨q1, ws, q2, q3, q4⟩ := okj
        subst q1
        have n : l2 ≠ l := fun z => st.ne i j _ _ l ej h eb ho rfl a (z ▸ ea)
        exact ⟨rfl, ws, q2, by rw [upd_ne n]; exact q3, q4⟩
  · have ow : ∀ (j : Nat) y, (env.set i s')[j]? = some y → y.isOwn = true → ∃ y', env[j]? = some y' ∧ y'.isOwn = true := fun j y bb oo => by
      by_cases c : i = j
      · subst c; exact ⟨s, h, ho⟩
      · rw [List.getElem?_set_ne c] at bb; exact ⟨y, bb, oo⟩
    obtain ⟨y, e1, e2⟩ := ow j z b1 o1
    obtain ⟨y', e3, e4⟩ := ow k z' b2 o2
    exact st.ne j k y y' p hjk e1 e3 e2 e4 a1
  · have n : p ≠ l := fun z => nw (z ▸ hw)
    rw [upd_ne n]; exact z
theorem dpa_set {v : V} {d : PyData} : ∀ {vs : List V} {ds : List PyData} (n : Nat), DpAll K H vs ds → Dp K H v d → DpAll K H (vs.set n v) (ds.set n d)
  | _, _, _, .nil, _ => .nil
  | _, _, 0, .cons _ b, h => .cons h b
  | _, _, n + 1, .cons a b, h => .cons a (dpa_set n b h)
/-- xs[k] = e, the list at a named place -/
theorem sx_setIA {n : Int} {j : Nat} (h : env[i]? = some (.ownA l xs)) (he : Ev K te env d) (hk : Ev K ti env (.int n)) (hj : ixN xs.length n = some j) : Sx K X (tAsg te (gSub (tVar i) ti rSetL)) env (.nx (env.set i (.ownA l (xs.set j d)))) := fun σ H H1 st D q =>
  he σ H H1 st _ fun v G H2 f dv => by
    have st2 := st.mono f
    obtain ⟨vs, a, b, c, dl⟩ := st2.ownA h
    refine ⟨_, a, hk σ G H2 st2 _ fun x G3 H3 f3 dx => ?_⟩
    cases dx
    have st3 := st2.mono f3
    obtain ⟨vs, a, b, c, dl⟩ := st3.ownA h
    refine ⟨l, vs, n, j, rfl, rfl, c, by rw [dpa_len dl]; exact hj, ?_⟩
    obtain ⟨w1, w2, w3⟩ := st3.write (o := .lst (vs.set j v)) (s' := .ownA l (xs.set j d)) h rfl a ⟨rfl, vs.set j v, b, upd_same, dpa_set j dl (dm f3.g dv)⟩ rfl
    exact q σ _ _ (((f.tr0 f3).mono fun _ z => z.elim).trans w2 fun p z => .inl z) w1 fun p z => .inl (w3 p z)
/-- xs[k] = e, one's own list -/
theorem sx_setI {n : Int} {j : Nat} (h : env[i]? = some (.own xs)) (he : Ev K te env d) (hk : Ev K ti env (.int n)) (hj : ixN xs.length n = some j) : Sx K X (tAsg te (gSub (tVar i) ti rSetL)) env (.nx (env.set i (.own (xs.set j d)))) := fun σ H H1 st D q =>
  he σ H H1 st _ fun v G H2 f dv => by
    have st2 := st.mono f
    obtain ⟨l, vs, a, b, c, dl⟩ := st2.own h
    refine ⟨_, a, hk σ G H2 st2 _ fun x G3 H3 f3 dx => ?_⟩
    cases dx
    have st3 := st2.mono f3
    obtain ⟨l', vs', a', b', c', dl'⟩ := st3.own h
    rw [a] at a'; cases a'
    refine ⟨l, vs', n, j, rfl, rfl, c', by rw [dpa_len dl']; exact hj, ?_⟩
    obtain ⟨w1, w2, w3⟩ := st3.write (o := .lst (vs'.set j v)) (s' := .own (xs.set j d)) h rfl a ⟨l, vs'.set j v, rfl, b', upd_same, dpa_set j dl' (dm f3.g dv)⟩ rfl
    exact q σ _ _ (((f.tr0 f3).mono fun _ z => z.elim).trans w2 fun p z => .inl z) w1 fun p z => .inl (w3 p z)
/-- o.append(e), o the list at a named place -/
theorem sx_appA (ho : Er K ta env (.ref l)) (h : env[i]? = some (.ownA l xs)) (he : Ev K te env d) (hz : xs.length < 100000) : Sx K X (tDrop (tBM K "list" rAppend ta (tCons te tNil))) env (.nx (env.set i (.ownA l (xs ++ [d])))) := fun σ H H1 st D q =>
  ho σ H H1 st _ fun G H2 f => by
    have st2 := st.mono f
    obtain ⟨vs, a, b, c, dl⟩ := st2.ownA h
    refine ⟨.inl ⟨rfl, _, .inl (.inl c)⟩, he σ G H2 st2 _ fun v G3 H3 f3 dv => ?_⟩
    have st3 := st2.mono f3
    obtain ⟨vs, a, b, c, dl⟩ := st3.ownA h
    refine ⟨l, vs, v, rfl, rfl, c, sz_lt (by rw [dpa_len dl]; exact hz), ?_⟩
    obtain ⟨w1, w2, w3⟩ := st3.write (o := .lst (vs ++ [v])) (s' := .ownA l (xs ++ [d])) h rfl a ⟨rfl, vs ++ [v], b, upd_same, dpa_app dl (.cons dv .nil)⟩ rfl
    exact q σ _ _ (((f.tr0 f3).mono fun _ z => z.elim).trans w2 fun p z => .inl z) w1 fun p z => .inl (w3 p z)
/-! lists at named places, lent as data -/
theorem Stt.freezeA (st : Stt K H H1 σ env) (h : env[i]? = some (.ownA l xs)) : ∃ vs : List V, H l = none ∧ H1 l = some (.lst vs) ∧ DpAll K H vs xs ∧ Stt K (upd H l (.lst vs)) H1 σ (env.set i (.dat (.list xs))) := by
  have hi : i < env.length := (List.getElem?_eq_some_iff.mp h).1
  obtain ⟨vs, a, b, c, dv⟩ := st.ownA h
  have st' : Stt K H H1 σ (env.set i (.own xs)) := st.re h (fun o e _ => by
    rw [a] at e; cases e
    exact ⟨l, vs, rfl, b, c, dv⟩) fun _ => rfl
  obtain ⟨l', vs', a', b', c', st2⟩ := st'.freeze (i := i) (xs := xs) (List.getElem?_set_self hi)
  rw [a] at a'; cases a'
  rw [c] at c'; cases c'
  rw [List.set_set] at st2
  exact ⟨vs, b, c, dv, st2⟩
theorem Stt.lend {l1 l2 : Addr} {n : Int} (st : Stt K H H1 σ env) (hi : env[i]? = some (.ownA l1 xs)) (hj : env[j]? = some (.ownA l2 ys)) (hk : env[k]? = some (.tupv [.int n, .ref l1, .ref l2])) (ij : i ≠ j) (ik : i ≠ k) (jk : j ≠ k) :
    ∃ H', Stt K H' H1 σ (((env.set i (.dat (.list xs))).set j (.dat (.list ys))).set k (.dat (.tuple [.int n, .list xs, .list ys]))) ∧ ∀ G H2, Fr0 H' H1 G H2 → Fr0 H H1 H H2 := by
  have hil : i < env.length := (List.getElem?_eq_some_iff.mp hi).1
  obtain ⟨vs, b1, c1, d1, st1⟩ := st.freezeA hi
  have hj' : (env.set i (.dat (.list xs)))[j]? = some (.ownA l2 ys) := by rw [List.getElem?_set_ne ij]; exact hj
  obtain ⟨ws, b2, c2, d2, st2⟩ := st1.freezeA hj'
  have hk' : ((env.set i (.dat (.list xs))).set j (.dat (.list ys)))[k]? = some (.tupv [.int n, .ref l1, .ref l2]) := by rw [List.getElem?_set_ne jk, List.getElem?_set_ne ik]; exact hk
  have s1 := newS (o := .lst vs) b1
  have s2 := newS (o := .lst ws) b2
  refine ⟨_, st2.re hk' (fun o _ ok => ?_) (fun z => nomatch z), fun G H2 f => ⟨Same.refl _, (s1.trans s2).trans (f.g.trans f.r), f.s, fun _ _ z _ => z, f.m⟩⟩
  obtain ⟨p, rfl, sq⟩ := ok
  have e1 : (upd (upd H l1 (.lst vs)) l2 (.lst ws)) l1 = some (.lst vs) := s2 _ _ upd_same
  exact ⟨_, rfl, .tup sq (.cons (.int n) (.cons (dp_list e1 (dms (s1.trans s2) d1)) (.cons (dp_list upd_same (dms s2 d2)) .nil)))⟩
theorem flat_ev {H : Hp} {w : V} (hd : fv d = some w) (h : Dp K G v d) : Dp K H v d := by
  revert hd
  cases h <;> intro hd
  · exact .non
  · exact .bl _
  · exact .int _
  · exact .str _
  · cases hd
  · cases hd
/-- within an expression whose answer is flat -/
theorem ev_lend {l1 l2 : Addr} {n : Int} (i j k : Nat) (hi : env[i]? = some (.ownA l1 xs)) (hj : env[j]? = some (.ownA l2 ys)) (hk : env[k]? = some (.tupv [.int n, .ref l1, .ref l2])) (ij : i ≠ j) (ik : i ≠ k) (jk : j ≠ k) (hd : fv d = some w)
    (h : Ev K te (((env.set i (.dat (.list xs))).set j (.dat (.list ys))).set k (.dat (.tuple [.int n, .list xs, .list ys]))) d) : Ev K te env d := fun σ H H1 st Q q => by
  obtain ⟨H', st', back⟩ := st.lend hi hj hk ij ik jk
  exact h σ H' H1 st' Q fun v G H2 f dv => q v H H2 (back G H2 f) (flat_ev hd dv)
theorem et_lend {b : Bool} {l1 l2 : Addr} {n : Int} (i j k : Nat) (hi : env[i]? = some (.ownA l1 xs)) (hj : env[j]? = some (.ownA l2 ys)) (hk : env[k]? = some (.tupv [.int n, .ref l1, .ref l2])) (ij : i ≠ j) (ik : i ≠ k) (jk : j ≠ k)
    (h : EvT K tt (((env.set i (.dat (.list xs))).set j (.dat (.list ys))).set k (.dat (.tuple [.int n, .list xs, .list ys]))) b) : EvT K tt env b := fun σ H H1 st Q q => by
  obtain ⟨H', st', back⟩ := st.lend hi hj hk ij ik jk
  exact h σ H' H1 st' Q fun G H2 f => q H H2 (back G H2 f)
/-! a def that gives its argument back -/
def spId (K : PySem.W.Frag) (R : PyData → Prop) (B : PyData → Value → Prop) : Sp := fun vs H1 Q E => ∃ H v d, Same H H1 ∧ vs = [v] ∧ Dp K H v d ∧ ((R d ∧ ∀ G H2, Fr0 H H1 G H2 → Q v H2) ∨ ∃ c, B d c ∧ ∀ G H2, Fr0 H H1 G H2 → E c none H2)
/-- te gives what the slot holds -/
def EvI (K : PySem.W.Frag) (te : TE) (env : List SV) (k : Nat) : Prop := ∀ σ H H1, Stt K H H1 σ env → ∀ Q : VK, (∀ v G H2, σ[k]? = some (some v) → Fr0 H H1 G H2 → Q v H2) → te σ H1 Q
theorem ei_call {R : PyData → Prop} {B : PyData → Value → Prop} {E : L2.St → XK} (h : env[k]? = some (.dat d)) (hr : R d) : EvI K (tCallS (spId K R B) E (tCons (tVar k) tNil)) env k := fun σ H H1 st Q q => by
  obtain ⟨v, a, b⟩ := st.dat h
  exact ⟨v, a, H, v, d, st.e, rfl, b, .inl ⟨hr, fun G H2 f => q v G H2 a f⟩⟩
theorem EvI.ev (h : EvI K te env k) (hk : env[k]? = some (.dat d)) : Ev K te env d := fun σ H H1 st Q q =>
  h σ H H1 st Q fun v G H2 a f => by
    obtain ⟨w, a', b⟩ := st.dat hk
    rw [a] at a'; cases a'
    exact q v G H2 f (dm f.g b)
theorem evx_callI {R : PyData → Prop} {B : PyData → Value → Prop} {c : Value} (h : env[k]? = some (.dat d)) (hb : B d c) : EvX K X (tCallS (spId K R B) (WE X) (tCons (tVar k) tNil)) env c := fun σ H H1 st Q q => by
  obtain ⟨v, a, b⟩ := st.dat h
  exact ⟨v, a, H, v, d, st.e, rfl, b, .inr ⟨c, hb, fun G H2 f => q G H2 f⟩⟩
/-- the same tuple, once more -/
theorem sx_setSame {l1 l2 : Addr} {n : Int} (i j k : Nat) {m : Nat} (hi : env[i]? = some (.ownA l1 xs)) (hj : env[j]? = some (.ownA l2 ys)) (hk : env[k]? = some (.tupv [.int n, .ref l1, .ref l2])) (ij : i ≠ j) (ik : i ≠ k) (jk : j ≠ k)
    (h : EvI K te (((env.set i (.dat (.list xs))).set j (.dat (.list ys))).set k (.dat (.tuple [.int n, .list xs, .list ys]))) k) : Sx K X (tAsg te (gName m)) env (.nx (env.set m (.tupv [.int n, .ref l1, .ref l2]))) := fun σ H H1 st D q => by
  obtain ⟨H', st', back⟩ := st.lend hi hj hk ij ik jk
  refine h σ H' H1 st' _ fun v G H2 a f => ?_
  have f' := back G H2 f
  have st2 := st.mono f'
  obtain ⟨p, a', sq⟩ := st2.tupv hk
  rw [a] at a'; cases a'
  refine q _ H H2 (f'.mono fun _ z => z.elim) (st2.setV rfl (show OkS K H H2 (some (.ref p)) (.tupv [.int n, .ref l1, .ref l2]) from ⟨p, rfl, sq⟩)) fun l z => ?_
  rcases Ow.set z with z | ⟨z, _⟩
  · exact .inl z
  · cases z
end
end Pf

namespace Pf
open PySem PySem.Spec PyProof.Rows L2
section
variable {K : PySem.W.Frag} {X : WX} {env env1 env2 : List SV} {ta tb tc te tl ti : TE} {aa : TA} {t u ts : TS} {tt : TT} {d e : PyData} {i j k : Nat} {xs ys ds : List PyData} {oc : Oc} {P : Oc → Prop} {H H1 G H2 : Hp} {σ : L2.St} {l : Addr} {v w : V} {vs : List V}
/-! a tuple's slice; a tuple's for that may end early -/
theorem ev_sliceT {a b : TO} {lo hi : Option Int} (h : Ev K te env (.tuple xs)) (ha : EvP K a env lo) (hb : EvP K b env hi) : Ev K (tSl (rSlA K) te a b) env (.tuple (cutD xs lo hi)) := fun σ H H1 st Q q =>
  h σ H H1 st _ fun v G H2 f d => ha σ G H2 (st.mono f) _ fun G2 H3 f2 => hb σ G2 H3 ((st.mono f).mono f2) _ fun G3 H4 f3 => by
    cases d with
    | @tup a vs _ hl hd =>
      have ff := (f.tr0 f2).tr0 f3
      have hd3 := dms (f2.g.trans f3.g) hd
      have hl3 : SqT K H4 a vs := sqt f3.r (sqt (f2.g.trans f3.g) hl)
      have hl4 : SqT K G3 a vs := sqt (f2.g.trans f3.g) hl
      refine ⟨a, vs, rfl, hl3, fun z => ?_, fun _ p hp => ?_⟩
      · have e : cutD xs lo hi = xs := by
          unfold cutD
          rw [← dpa_len hd, z.1, z.2]
          rw [List.drop_zero, List.take_of_length_le (by rw [← dpa_len hd]; omega)]
        rw [e] at q
        exact q _ G3 H4 ff (.tup hl4 hd3)
      · have n : Fr0 G3 H4 (upd G3 p (.tup (cutV vs lo hi))) (upd H4 p (.tup (cutV vs lo hi))) := Fr.new f3.r hp
        refine q _ _ _ (ff.tr0 n) (.tup (.inl (.inl upd_same)) (dms n.g ?_))
        unfold cutV cutD
        rw [dpa_len hd]
        exact dpa_take _ (dpa_drop _ hd3)
theorem sx_forTE {g : TG} (h : Ev K tl env (.tuple ds)) (Inv : Nat → List SV) (h0 : Inv 0 = env) (o : Nat → Bool) (ex : Oc) (hx : ex.isNx = false) (hb : ∀ e, ex ≠ .bk e) (hc : ∀ e, ex ≠ .ct e)
    (go : ∀ (i : Nat) (d : PyData), ds[i]? = some d → (∀ j, j < i → o j = false) → ∃ env', Tg K g (Inv i) d env' ∧ ((o i = false → Go K X t env' (Inv (i + 1))) ∧ (o i = true → oc = ex ∧ Sx K X t env' ex)))
    (rest : (∀ j, j < ds.length → o j = false) → Sx K X u (Inv ds.length) oc) : Sx K X (tSeq (tFor (iTup K tl) g t) u) env oc := fun σ H H1 st D q => by
  refine h σ H H1 st _ fun v G0 H2 f dv => ?_
  cases dv with
  | @tup a vs _ hl hd =>
    have f' : Fr (Ow σ env) H H1 G0 H2 := f.mono fun _ z => z.elim
    have stay : ∀ {G H' : Hp}, Fr (Ow σ env) G0 H2 G H' → SqT K H' a vs := fun {G H'} f2 => sqt f2.r (sqt f2.g hl)
    refine ⟨a, rfl, ⟨vs, sqt f.r hl⟩, for_tup (K := K) (a := a) (xs := vs) (fun i σ' H' => Pt K (Ow σ env) G0 H2 Inv i σ' H' ∧ ∀ j, j < i → o j = false) ⟨⟨G0, Fr.refl f.r, by rw [h0]; exact st.mono f, fun l z => .inl (by rw [h0] at z; exact z)⟩, fun j hj => absurd hj (Nat.not_lt_zero j)⟩ (fun i σ' H' _ p => ?_) (fun i x σ' H' hi p => ?_) (fun σ' H' p => ?_)⟩
    · obtain ⟨⟨G, f2, _, _⟩, _⟩ := p
      exact stay f2
    · obtain ⟨⟨G, f2, st2, ow⟩, hj⟩ := p
      obtain ⟨d, e1, e2⟩ := dpa_get hd hi
      obtain ⟨env', tg, g1, g2⟩ := go i d e1 hj
      refine tg σ' G H' x st2 (dm f2.g e2) _ fun σ2 st3 o3 => ?_
      have ow3 : ∀ l, Ow σ2 env' l → Ow σ env l ∨ H2 l = none := fun l z => ow l (o3 l z)
      cases hoi : o i with
      | false =>
        have nx : ∀ σ3 G3 H3, Fr (Ow σ2 env') G H' G3 H3 → Stt K G3 H3 σ3 (Inv (i + 1)) → (∀ l, Ow σ3 (Inv (i + 1)) l → Ow σ2 env' l ∨ H' l = none) → Pt K (Ow σ env) G0 H2 Inv (i + 1) σ3 H3 ∧ ∀ j, j < i + 1 → o j = false := fun σ3 G3 H3 f3 st4 o4 =>
          ⟨⟨G3, f2.trans f3 ow3, st4, fun l z => (o4 l z).elim (ow3 l) fun z => .inr (f2.m l z)⟩, fun j hj' => by
            rcases Nat.lt_succ_iff_lt_or_eq.mp hj' with z | z
            · exact hj j z
            · rw [z]; exact hoi⟩
        rcases g1 hoi with w | w
        · exact w σ2 G H' st3 _ nx
        · exact w σ2 G H' st3 _ nx
      | true =>
        obtain ⟨eo, w⟩ := g2 hoi
        refine w σ2 G H' st3 _ ?_
        have q' : OcOk K X (Ow σ2 env') D G H' ex := by
          rw [eo] at q
          refine (q.tr f' fun l z => .inl z).tr f2 ow3
        cases ex with
        | nx e => cases hx
        | bk e => exact absurd rfl (hb e)
        | ct e => exact absurd rfl (hc e)
        | ex c e => exact q'
        | rt d => exact q'
        | rl x => exact q'
        | rr v => exact q'
        | rw vs e => exact q'
    · obtain ⟨⟨G, f2, st2, ow⟩, hj⟩ := p
      rw [dpa_len hd] at st2 ow hj
      exact rest hj σ' G H' st2 D ((q.tr f' fun l z => .inl z).tr f2 ow)
/-! raise C(args) -/
theorem sx_raiseA {c : Value} (h : EvA K aa env ds) (hz : ds.length ≤ 100000) : Sx K X (fun _ σ H => aa σ H fun vs H1 => vs.length ≤ sizeLine ∧ X c none σ H1) env (.ex c env) := fun σ H H1 st D q =>
  h σ H H1 st _ fun vs G H2 f dv => ⟨by rw [dpa_len dv]; exact sz_ok hz, q σ G H2 (f.mono fun _ z => z.elim) (st.mono f) fun l z => .inl z⟩
/-! f"..{n}.." -/
theorem ev_fmtI {n : Int} (h : Ev K te env (.int n)) (hn : n.natAbs.log2 < 1920) : Ev K (tFmt te) env (.str (Str.ofString (toString n))) := fun σ H H1 st Q q =>
  h σ H H1 st _ fun v G H2 f d => by
    cases d
    exact .inr ⟨n, rfl, hn, q _ G H2 f (.str _)⟩
theorem ev_js3 {a b c : Str} (ha : Ev K ta env (.str a)) (hb : Ev K tb env (.str b)) (hc : Ev K tc env (.str c)) (h1 : (Str.empty ++ a).length ≤ 100000) (h2 : (Str.empty ++ a ++ b).length ≤ 100000) (h3 : (Str.empty ++ a ++ b ++ c).length ≤ 100000) : Ev K (fun σ H Q => tJs [ta, tb, tc] Str.empty σ H fun out H1 => Q (.str out) H1) env (.str (Str.empty ++ a ++ b ++ c)) := fun σ H H1 st Q q =>
  ha σ H H1 st _ fun v G H2 f d => by
    cases d
    refine ⟨a, rfl, sz_ok h1, hb σ G H2 (st.mono f) _ fun v G3 H3 f3 d3 => ?_⟩
    cases d3
    refine ⟨b, rfl, sz_ok h2, hc σ G3 H3 ((st.mono f).mono f3) _ fun v G4 H4 f4 d4 => ?_⟩
    cases d4
    exact ⟨c, rfl, sz_ok h3, q _ G4 H4 ((f.tr0 f3).tr0 f4) (.str _)⟩
/-! a def whose one argument is kept as it is -/
theorem runI {H H1 : Hp} {N : List Str} {v : V} {n : Nat} {D : Ends} (s : Same H H1) (dv : Dp K H v d) (hn : N.length - 1 = n) (h : Sx K X t (.rd v d :: List.replicate n .no) oc) (q : OcOk K X (fun _ => False) D H H1 oc) : t D (L2.start N [v]) H1 := by
  have st : Stt K H H1 (L2.start N [v]) (.dat d :: List.replicate n .no) := stt_start (ds := [d]) (N := N) s (.cons dv .nil) hn
  have st' : Stt K H H1 (L2.start N [v]) (.rd v d :: List.replicate n .no) := st.re (i := 0) (s := .dat d) (s' := .rd v d) rfl (fun o e _ => by
    have e' : some v = o := Option.some.inj e
    exact ⟨e'.symm, dv⟩) (fun z => nomatch z)
  refine h _ H H1 st' D (q.tr (Fr.refl s) fun p z => (ow_none (fun sv m => ?_) z).elim)
  rcases List.mem_cons.mp m with m | m
  · rw [m]; rfl
  · obtain ⟨_, rfl⟩ := List.mem_replicate.mp m; rfl
/-! a tuple that is kept -/
def EvKn (K : PySem.W.Frag) (te : TE) (env : List SV) (xs : List PyData) : Prop := ∀ σ H H1, Stt K H H1 σ env → ∀ Q : VK, (∀ p vs G H2, Fr0 H H1 G H2 → G p = some (.lst vs) → DpAll K G vs xs → Q (.ref p) H2) → te σ H1 Q
theorem EvO.kn (h : EvO K te env xs) : EvKn K te env xs := fun σ H H1 st Q q =>
  h σ H H1 st _ fun p vs G H2 f h1 hg h2 dv => by
    refine q p vs (upd G p (.lst vs)) H2 ⟨f.g.trans (newS hg), fun b x z => ?_, f.s, fun b hw c1 c2 => ?_, f.m⟩ upd_same (dms (newS hg) dv)
    · by_cases c : b = p
      · subst c; rw [upd_same] at z; cases z; exact h2
      · rw [upd_ne c] at z; exact f.r b x z
    · have c : b ≠ p := fun z => c2 (by rw [z]; exact h1)
      rw [upd_ne c]; exact f.n b hw c1 c2
theorem sx_setK {n : Int} (h0 : Er K ta env (.int n)) (h1 : EvKn K tb env xs) (h2 : EvKn K tc env ys) : Sx K X (tAsg (tTup (tCons ta (tCons tb (tCons tc tNil)))) (gName i)) env (.nx (env.set i (.kep n xs ys))) := fun σ H H1 st D q =>
  h0 σ H H1 st _ fun G1 H2 f1 => h1 σ G1 H2 (st.mono f1) _ fun a vs G2 H3 f2 e2 d2 => h2 σ G2 H3 ((st.mono f1).mono f2) _ fun b ws G3 H4 f3 e3 d3 => ⟨Nat.le_trans (show 3 ≤ 100000 by decide) (by decide), fun p hp => by
    have ff := (f1.tr0 f2).tr0 f3
    have n : Fr0 G3 H4 (upd G3 p (.tup [.int n, .ref a, .ref b])) (upd H4 p (.tup [.int n, .ref a, .ref b])) := Fr.new f3.r hp
    refine q _ _ _ ((ff.tr0 n).mono fun _ z => z.elim) ((st.mono (ff.tr0 n)).setV rfl ⟨p, a, b, vs, ws, rfl, .inl (.inl upd_same), n.g _ _ (f3.g _ _ e2), dms n.g (dms f3.g d2), n.g _ _ e3, dms n.g d3⟩) fun l z => ?_
    rcases Ow.set z with z | ⟨z, _⟩
    · exact .inl z
    · cases z⟩
theorem Stt.kep {n : Int} (st : Stt K H H1 σ env) (h : env[i]? = some (.kep n xs ys)) : ∃ t a b vs ws, σ[i]? = some (some (.ref t)) ∧ SqT K H t [.int n, .ref a, .ref b] ∧ H a = some (.lst vs) ∧ DpAll K H vs xs ∧ H b = some (.lst ws) ∧ DpAll K H ws ys := by
  obtain ⟨o, a, b⟩ := st.get h
  obtain ⟨t, p1, p2, vs, ws, rfl, r⟩ := b
  exact ⟨t, p1, p2, vs, ws, a, r⟩
theorem ev_kep {n : Int} (h : env[i]? = some (.kep n xs ys)) : Ev K (tVar i) env (.tuple [.int n, .list xs, .list ys]) := fun σ H H1 st Q q => by
  obtain ⟨t, a, b, vs, ws, e0, e1, e2, e3, e4, e5⟩ := st.kep h
  exact ⟨_, e0, q _ H H1 (Fr.refl st.e) (.tup e1 (.cons (.int n) (.cons (.lst (.inl (.inl e2)) e3) (.cons (.lst (.inl (.inl e4)) e5) .nil))))⟩
theorem el_kep1 {n : Int} (h : env[i]? = some (.kep n xs ys)) : EvL K (tOp (rIxT K) (tVar i) (tC (.int 1))) env xs := fun σ H H1 st Q q => by
  obtain ⟨t, a, b, vs, ws, e0, e1, e2, e3, e4, e5⟩ := st.kep h
  exact ⟨_, e0, _, _, 1, .ref a, rfl, rfl, sqt st.e e1, rfl, q a vs H H1 (Fr.refl st.e) (st.e _ _ e2) e3⟩
theorem el_kep2 {n : Int} (h : env[i]? = some (.kep n xs ys)) : EvL K (tOp (rIxT K) (tVar i) (tC (.int 2))) env ys := fun σ H H1 st Q q => by
  obtain ⟨t, a, b, vs, ws, e0, e1, e2, e3, e4, e5⟩ := st.kep h
  exact ⟨_, e0, _, _, 2, .ref b, rfl, rfl, sqt st.e e1, rfl, q b ws H H1 (Fr.refl st.e) (st.e _ _ e4) e5⟩
theorem Er.ev (h : Er K te env v) (hd : vd v = some d) : Ev K te env d := fun σ H H1 st Q q =>
  h σ H H1 st Q fun G H2 f => q v G H2 f (vd_dp hd)
end
end Pf

namespace Pf
open PySem PySem.Spec PyProof.Rows L2
/-! ### dicts whose keys are data: told as what is true of the object -/
section
variable {X : Cx} {pins : List (Addr × Obj)} {σ : L2.St} {H : Hp} {s : Shared}
mutual
theorem nest_is (I : L2.Inv X pins σ H s) : ∀ (k : NestedKey) {v : V} {u : Value}, Dp X.K H v k.data → L2.RelV v u → NestedIs s.heap k u
  | .none, v, u, d, r => by
    rw [NestedKey.data] at d; cases d
    have r' : u = .none := r
    subst r'; exact .none
  | .num i, v, u, d, r => by
    rw [NestedKey.data] at d; cases d
    obtain ⟨t, rfl⟩ := r
    exact .int i t
  | .text x, v, u, d, r => by
    rw [NestedKey.data] at d; cases d
    obtain ⟨t, rfl⟩ := r
    exact .text x t
  | .tup ks, v, u, d, r => by
    rw [NestedKey.data] at d
    cases d with
    | tup ht hd =>
      have r' : u = .ref _ := r
      subst r'
      obtain ⟨its, rv, ⟨o, e1, e2, n, e3⟩, _⟩ := I.tuple ht
      exact .tup e1 e2 e3 (nest_all I ks hd (by simpa using rv))
theorem nest_all (I : L2.Inv X pins σ H s) : ∀ (ks : List NestedKey) {vs : List V} {us : List Value}, DpAll X.K H vs (NestedKey.datas ks) → Vals vs us → NestedAll s.heap ks us
  | [], vs, us, d, r => by
    rw [NestedKey.datas] at d; cases d; cases r; exact .nil
  | k :: ks, vs, us, d, r => by
    rw [NestedKey.datas] at d
    cases d with
    | cons a b =>
      cases r with
      | cons e f => exact .cons (nest_is I k a e) (nest_all I ks b f)
end
end
theorem dx_ok {P : Program} {w : World} {H : Hp} {h : Heap} {D : Addr} {xs : List Ent} (d : DX P w D xs h) : ObjOk P w H h D (.ext (DX P w D xs)) := by
  refine ⟨d, ?_, fun h1 h2 ⟨e0, o, es, ep, e1, e2⟩ k => ⟨e0, o, es, ep, k o e1, e2⟩⟩
  obtain ⟨_, o, es, ep, e, _⟩ := d
  exact ⟨o, e⟩
section
variable {X : Cx} {pins : List (Addr × Obj)} {σ : L2.St} {H : Hp} {s : Shared} {D a : Addr} {xs : List Ent} {k : NestedKey}
theorem DAt.dx (I : L2.Inv X pins σ H s) (h : DAt X.prog X.w H D xs) : DX X.prog X.w D xs s.heap := by
  rcases h with h | ⟨o, h⟩
  · exact (I.hok D _ h).1
  · exact (I.hok D _ h).2.1
theorem KeyIn.is (I : L2.Inv X pins σ H s) (h : KeyIn X.K H a k) : (nestedKind X.prog X.w).is s.heap k a := ⟨nest_is I k h.1 rfl, h.2⟩
theorem DAt.of (I : L2.Inv X pins σ H s) (h : DAt X.prog X.w H D xs) (hk : ∀ x ∈ xs, KeyIn X.K H x.2.1 x.1) : (D == sysModules) = false ∧ Heap.DictOfH (nestedKind X.prog X.w) s.heap D xs := by
  obtain ⟨e0, o, es, ep, e1, e2, e3, e4, e5⟩ := h.dx I
  exact ⟨e0, o, es, ep, e1, e2, e3, e4, fun x hx => (hk x hx).is I, e5⟩
def rInX (P : Program) (w : World) (K : PySem.W.Frag) (neg : Bool) : R2 := fun x y H Q => ∃ a D xs k, x = .ref a ∧ y = .ref D ∧ DAt P w H D xs ∧ KeyIn K H a k ∧ (∀ x ∈ xs, KeyIn K H x.2.1 x.1) ∧ Q (.bl (if neg then !(atKey xs k).isSome else (atKey xs k).isSome)) H
theorem op_inX (hr : X.A.units + 65 < cLine) : OpR X (compareOp .In) (rInX X.prog X.w X.K false) := by
  intro pins s σ H x y v u Q I rx ry h
  obtain ⟨a, D, xs, k, rfl, rfl, hD, hk, hx, q⟩ := h
  have r1 : v = .ref a := rx
  have r2 : u = .ref D := ry
  subst r1 r2
  obtain ⟨e0, dd⟩ := hD.of I hx
  exact wpAny_in_heap (knd := nestedKind X.prog X.w) (by show X.A.units + 1 + 8 < cLine; omega) (hk.is I) e0 dd ⟨.bl _, H, I.tok _, rfl, q⟩
theorem op_notInX (hr : X.A.units + 65 < cLine) : OpR X (compareOp .NotIn) (rInX X.prog X.w X.K true) := by
  intro pins s σ H x y v u Q I rx ry h
  obtain ⟨a, D, xs, k, rfl, rfl, hD, hk, hx, q⟩ := h
  have r1 : v = .ref a := rx
  have r2 : u = .ref D := ry
  subst r1 r2
  obtain ⟨e0, dd⟩ := hD.of I hx
  refine notIn_keyed (knd := nestedKind X.prog X.w) (kvs := pairsH xs) (by show X.A.units + 1 + 8 < cLine; omega) (hk.is I) e0 ⟨xs, dd, rfl⟩ ⟨.bl (!(valueAt (pairsH xs) k).isSome), H, I.tok _, rfl, ?_⟩
  rw [valueAt_pairsH]
  have e : (Option.map (fun p : Addr × Value => p.2) (atKey xs k)).isSome = (atKey xs k).isSome := by cases atKey xs k <;> rfl
  rw [e]; exact q
/-- d[k] -/
def rIxX (P : Program) (w : World) (K : PySem.W.Frag) : R2 := fun x y H Q => ∃ a D xs k p v, x = .ref D ∧ y = .ref a ∧ DAt P w H D xs ∧ KeyIn K H a k ∧ (∀ x ∈ xs, KeyIn K H x.2.1 x.1) ∧ atKey xs k = some p ∧ L2.RelV v p.2 ∧ Q v H
theorem ix_X (hr : X.A.units + 65 < cLine) : IxR X (rIxX X.prog X.w X.K) := by
  intro value slice pins s σ H x y v u Q I rx ry h hs
  obtain ⟨a, D, xs, k, p, v0, rfl, rfl, hD, hk, hx, hp, rv, q⟩ := h
  have r1 : v = .ref D := rx
  have r2 : u = .ref a := ry
  subst r1 r2
  obtain ⟨e0, dd⟩ := hD.of I hx
  have dk : Heap.DictKeyed (nestedKind X.prog X.w) s.heap D (pairsH xs) := ⟨xs, dd, rfl⟩
  exact subscriptTail_builtinR (x := p.2) dk.typeIs F.slot_dict_getitem.lookup (wpAny_getItem_heap (knd := nestedKind X.prog X.w) (by show X.A.units + 1 + 8 < cLine; omega) (hk.is I) dd hp ⟨rfl, v0, H, I.tok _, rv, q⟩) hs
/-- d[k] = v -/
def rSetX (P : Program) (w : World) (K : PySem.W.Frag) : TSet := fun o i v H Q => ∃ a D xs k, o = .ref D ∧ i = .ref a ∧ H D = some (.ext (DX P w D xs)) ∧ KeyIn K H a k ∧ (∀ x ∈ xs, KeyIn K H x.2.1 x.1) ∧ xs.length < 100000 ∧ ∀ u, L2.RelV v u → Q (upd H D (.ext (DX P w D (storedH xs k a u))))
theorem set_X (hr : X.A.units + 65 < cLine) : PSet X (rSetX X.prog X.w X.K) := by
  intro pins s σ H o i v ov iv u Q I ro ri rv h
  obtain ⟨a, D, xs, k, rfl, rfl, hD, hk, hx, hz, q⟩ := h
  have r1 : ov = .ref D := ro
  have r2 : iv = .ref a := ri
  subst r1 r2
  obtain ⟨e0, dd⟩ := DAt.of (X := X) (D := D) (xs := xs) I (.inl hD) hx
  refine wpAny_setItem_heap (knd := nestedKind X.prog X.w) (by show X.A.units + 1 + 8 < cLine; omega) (hk.is I) dd (fun h' dd' sb => ?_) (Nat.le_of_lt (sz_lt hz))
  obtain ⟨o, es, ep, e1, e2, e3, e4, e5, e6⟩ := dd'
  exact ⟨_, d_write I (by rw [hD]; trivial) sb ⟨o, e1⟩ (dx_ok ⟨e0, o, es, ep, e1, e2, e3, e4, e6⟩), q u rv⟩
/-- len(d) -/
def rLenX (P : Program) (w : World) (K : PySem.W.Frag) : List V → Hp → VK → Prop := fun vs H Q => ∃ D xs, vs = [.ref D] ∧ DAt P w H D xs ∧ (∀ x ∈ xs, KeyIn K H x.2.1 x.1) ∧ xs.length ≤ 100000 ∧ Q (.int xs.length) H
theorem call_lenX : CallR X (.builtin "len") (rLenX X.prog X.w X.K) := by
  intro pins s σ H vs us Q I r h
  obtain ⟨D, xs, rfl, hD, hx, hz, q⟩ := h
  rw [Vals.ref1 r]
  obtain ⟨e0, dd⟩ := hD.of I hx
  have dk : Heap.DictKeyed (nestedKind X.prog X.w) s.heap D (pairsH xs) := ⟨xs, dd, rfl⟩
  refine PyProof.Rows.call_len_slot (n := (xs.length : Int)) dk.typeIs F.slot_dict_len (fun Q' hq => len_keyed e0 dk (by rw [pairsH_length]; exact hq)) (by omega) (by omega) ⟨.int xs.length, H, I.tok _, ⟨_, rfl⟩, q⟩
/-- d.get(k, x) -/
def rGetX (P : Program) (w : World) (K : PySem.W.Frag) : V → List V → Hp → VK → Prop := fun x vs H Q => ∃ a D xs k d v, x = .ref D ∧ vs = [.ref a, d] ∧ DAt P w H D xs ∧ KeyIn K H a k ∧ (∀ x ∈ xs, KeyIn K H x.2.1 x.1) ∧ (∀ p, atKey xs k = some p → L2.RelV v p.2) ∧ (atKey xs k = none → v = d) ∧ Q v H
theorem mt_getX (hr : X.A.units + 65 < cLine) : MtR X "dict.get" (rGetX X.prog X.w X.K) := by
  intro pins s σ H x vs v us Q I rx rvs h
  obtain ⟨a, D, xs, k, d, v0, rfl, rfl, hD, hk, hx, h1, h2, q⟩ := h
  have r1 : v = .ref D := rx
  subst r1
  obtain ⟨u1, u2, rfl, q1, q2⟩ := L2.vals2 rvs
  have q1' : u1 = .ref a := q1
  subst q1'
  obtain ⟨e0, dd⟩ := hD.of I hx
  refine getOr_keyed (knd := nestedKind X.prog X.w) (kvs := pairsH xs) (by show X.A.units + 1 + 8 < cLine; omega) (hk.is I) e0 ⟨xs, dd, rfl⟩ ⟨v0, H, I.tok _, ?_, q⟩
  rw [valueAt_pairsH]
  cases e : atKey xs k with
  | none => rw [h2 e]; exact q2
  | some p => exact h1 p e
/-- {} -/
def tNewX (P : Program) (w : World) : TE := fun _ H Q => ∀ p : Addr, H p = none → Q (.ref p) (upd H p (.ext (DX P w p [])))
theorem pe_newX {pos : Pos} : PE X (Expr.Dict [] [] pos) (tNewX X.prog X.w) := ⟨fun pins s σ H Q I h =>
  wpAny_Dict_empty ⟨.ref _, _, I.laid (t' := s.toks) (fun b o e => Heap.get?_push_of_some _ e) (Nat.le_refl _) (dx_ok (xs := []) ⟨by
    have := I.big
    show (s.heap.objs.size == 1) = false
    have h2 : (1 : Nat) < s.heap.objs.size := this
    exact beq_false_of_ne (by omega), _, #[], 0, Heap.get?_push_size s.heap rfl, ⟨rfl, rfl, rfl⟩, rfl, rfl, List.nodup_nil⟩), rfl, h _ (I.hok.fresh (Nat.le_refl _))⟩⟩
theorem newX_ok {h : Heap} (hb : sysModules < h.objs.size) : DX X.prog X.w h.objs.size [] (h.push { cls := .type "dict", data := .dict #[] }) := ⟨by
    show (h.objs.size == 1) = false
    have h2 : (1 : Nat) < h.objs.size := hb
    exact beq_false_of_ne (by omega), _, #[], 0, Heap.get?_push_size h rfl, ⟨rfl, rfl, rfl⟩, rfl, rfl, List.nodup_nil⟩
/-- {k: v} -/
def tDispX (P : Program) (w : World) (K : PySem.W.Frag) (tk tv : TE) : TE := fun σ H Q => ∀ D : Addr, H D = none → tPairs [(tk, tv)] σ (upd H D (.ext (DX P w D []))) fun ps H2 => H2 D = some (.ext (DX P w D [])) ∧ ∃ a k v, ps = [(.ref a, v)] ∧ KeyIn K H2 a k ∧ ∀ u, L2.RelV v u → Q (.ref D) (upd H2 D (.ext (DX P w D [(k, a, u)])))
theorem pe_dispX {pos : Pos} {ke ve : Expr} {tk tv : TE} (hr : X.A.units + 65 < cLine) (hk : PE X ke tk) (hv : PE X ve tv) : PE X (Expr.Dict [some ke] [ve] pos) (tDispX X.prog X.w X.K tk tv) := ⟨fun pins s σ H Q I q => by
  have hn := I.hok.fresh (Nat.le_refl s.heap.objs.size)
  have I1 : L2.Inv X pins σ (upd H s.heap.objs.size (.ext (DX X.prog X.w s.heap.objs.size []))) { heap := s.heap.push { cls := .type "dict", data := .dict #[] }, gens := s.gens, drawn := s.drawn, toks := s.toks, os := s.os } := I.laid (t' := s.toks) (fun b o e => Heap.get?_push_of_some _ e) (Nat.le_refl _) (dx_ok (newX_ok I.big))
  have zp := zip_pairTrees [some ke] [ve] X.env pos rfl rfl
  have hlen := pairTrees_length [some ke] [ve] X.env pos rfl rfl
  have hl1 : (pairTrees [some ke] [ve] X.env pos).length = 1 := hlen
  rw [arm_eval_Dict, zp, dictDisplay_pairs _ (fun e => by rw [e] at hl1; cases hl1) (by rw [hl1]; decide)]
  refine wpAny_bind (wpAny_standAt (wpAny_bind (wpAny_subDictH (knd := nestedKind X.prog X.w) (by show X.A.units + 8 < cLine; omega) (by rw [hl1]; decide) (thn ((pps_cons (pos := pos) hk hv pps_nil).run pins _ σ _ _ I1 (q _ hn)) fun ws s2 x => ?_))))
  obtain ⟨ps, H2, I2, rel, eD, a, k, v, rfl, kin, q2⟩ := x
  cases rel with
  | cons r1 r2 =>
    cases r2
    rename_i b
    obtain ⟨b1, b2⟩ := b
    obtain ⟨e1, e2⟩ := r1
    have e1' : b1 = .ref a := e1
    subst e1'
    have dx := (I2.hok _ _ eD).1
    obtain ⟨e0, o, es, ep, f1, f2, f3, f4, f5⟩ := dx
    refine ⟨[(k, a, b2)], ⟨rfl, rfl, kin.is I2, trivial⟩, ⟨o, es, ep, f1, f2, f3, f4, (fun x hx => absurd hx List.not_mem_nil), f5⟩, fun h' tk dd sb => ?_⟩
    obtain ⟨o', es', ep', g1, g2, g3, g4, g5, g6⟩ := dd
    exact wpAny_pure ⟨.ref _, _, d_write I2 (by rw [eD]; trivial) sb ⟨o', g1⟩ (dx_ok (xs := [(k, a, b2)]) ⟨e0, o', es', ep', g1, g2, g3, g4, g6⟩), rfl, q2 b2 e2⟩⟩
/-- for k in d -/
def Itx (P : Program) (w : World) (D : Addr) (o : Obj) (xs : List Ent) : It where
  go := fun i H => H D = some (.frz o (.ext (DX P w D xs))) ∧ i < xs.length
  yld := fun i H x H' => H' = H ∧ ∃ e, xs[i]? = some e ∧ x = .ref e.2.1
  stop := fun i H => H D = some (.frz o (.ext (DX P w D xs))) ∧ xs.length ≤ i
theorem frz_at (I : L2.Inv X pins σ H s) {o : Obj} (h : H D = some (.frz o (.ext (DX X.prog X.w D xs)))) : (D == sysModules) = false ∧ s.heap.get? D = some o ∧ o.ExactDict ∧ ∃ es ep, o.data = .dict es ep ∧ es.size = xs.length ∧ ∀ (i : Nat) (e : Ent), xs[i]? = some e → ∃ en, es[i]? = some en ∧ en.key = .ref e.2.1 := by
  obtain ⟨g, ⟨e0, o', es, ep, e1, e2, e3, e4, e5⟩, _⟩ := I.hok D _ h
  have go : s.heap.get? D = some o := g
  rw [go] at e1; cases e1
  refine ⟨e0, g, e2, es, ep, e3, ?_, fun i e hi => ⟨entryOfKey (nestedKind X.prog X.w) e, ?_, rfl⟩⟩
  · rw [← Array.length_toList, e4, List.length_map]
  · rw [← Array.getElem?_toList, e4, List.getElem?_map, hi]; rfl
theorem turn_X {P : Program} {w : World} {K : PySem.W.Frag} {tg : Expr} {o : Obj} {es : Array DictEntry} {ep : Nat} (it : Addr) (hod : o.data = .dict es ep) : Turn P w K tg (Itx P w D o xs) [it] it fun i h => h.IsKeyIter it D i xs.length ep where
  mem := List.mem_singleton.mpr rfl
  obj := fun i h st b hb => by
    rw [List.mem_singleton.mp hb]
    obtain ⟨oi, e, c, dd⟩ := id st
    exact ⟨oi, e, fun v z => by rw [dd] at z; cases z⟩
  keep := fun i h h' st k => st.at fun oi e => k it (List.mem_singleton.mpr rfl) oi e
  item := fun X hP hw hK hc i pins s σ H E I hf st hg => by
    subst hP hw
    obtain ⟨hd, hi⟩ := hg
    obtain ⟨f0, f1, f2, f3, f4, f5⟩ := hf it (List.mem_singleton.mpr rfl)
    obtain ⟨hs, hgd, hx, es', ep', hdt, hsz, ent⟩ := frz_at I hd
    obtain ⟨rfl, rfl⟩ := dict_ep hod hdt
    obtain ⟨en, hen, hkey⟩ := ent i xs[i] (List.getElem?_eq_getElem hi)
    refine next_key_item st hgd hdt hsz hen fun h' st' sb => ?_
    have I1 := I.turned (h' := h') (t' := s.toks) (fun b ob hb e => (sb.2 b hb).trans e) f0 f1 f3 f4 f5
    obtain ⟨oi, e, c, dd⟩ := id st'
    exact ⟨en.key, rfl, go_of e c dd (by decide) ⟨.ref xs[i].2.1, H, I1, hkey, ⟨rfl, xs[i], List.getElem?_eq_getElem hi, rfl⟩, st', fun b hb => (hf b hb).1⟩⟩
  done := fun X hP hw hK hc i pins s σ H E I hf st hg => by
    subst hP hw
    obtain ⟨hd, hi⟩ := hg
    obtain ⟨f0, f1, f2, f3, f4, f5⟩ := hf it (List.mem_singleton.mpr rfl)
    obtain ⟨hs, hgd, hx, es', ep', hdt, hsz, ent⟩ := frz_at I hd
    obtain ⟨rfl, rfl⟩ := dict_ep hod hdt
    exact next_key_end (I.ok.hd hc) st hgd hdt hsz hi fun h' eb => ⟨rfl, I.turned (t' := s.toks) (fun b ob hb e => eb b ob hb e) f0 f1 f3 f4 f5⟩
  self := fun A i s Q E st h => (turn_keysT (P := P) (w := w) (K := K) (tg := tg) (d := D) (o := o) (kvs := List.replicate xs.length ([], V.non)) it hod).self A i s Q E (by rw [List.length_replicate]; exact st) h
def iX (P : Program) (w : World) (td : TE) : TI := fun σ H R => td σ H fun x H1 => ∃ D xs, x = .ref D ∧ ((H1 D = some (.ext (DX P w D xs)) ∧ ∀ o, R (Itx P w D o xs) (upd H1 D (.frz o (.ext (DX P w D xs))))) ∨ ∃ o, H1 D = some (.frz o (.ext (DX P w D xs))) ∧ R (Itx P w D o xs) H1)
theorem pi_X {tg e : Expr} {td : TE} (he : PE X e td) : PI X tg e (iX X.prog X.w td) := ⟨fun pins s σ H R I h => thn (he.run pins s σ H _ I h) fun u s1 r => by
  obtain ⟨x, H1, I1, rx, D, xs, rfl, q⟩ := r
  have rx' : u = .ref D := rx
  subst rx'
  have fin : ∀ (o : Obj) (H2 : Hp), L2.Inv X pins σ H2 s1 → H2 D = some (.frz o (.ext (DX X.prog X.w D xs))) → R (Itx X.prog X.w D o xs) H2 → wpAny (model X.prog X.w) X.A (pyIter (.ref D)) (PIE X pins σ tg R) X.xe s1 := fun o H2 I2 hd q => by
    obtain ⟨hs, hgd, hx, es, ep, hdt, hsz, ent⟩ := frz_at I2 hd
    refine iter_keys hs hgd hx hdt (pi_one I2 _ (turn_X s1.heap.objs.size hdt) ⟨_, Heap.get?_push_size s1.heap rfl, rfl, ?_⟩ q)
    show Data.fields #[Value.ref D, Value.int 0 0, Value.int (es.size : Nat) 0, Value.int (ep : Nat) 0] = Data.fields #[Value.ref D, Value.int (0 : Nat) 0, Value.int (xs.length : Nat) 0, Value.int (ep : Nat) 0]
    rw [hsz]; rfl
  rcases q with ⟨hd, q⟩ | ⟨o, hd, q⟩
  · obtain ⟨dx, ⟨o, go⟩, st⟩ := I1.hok D _ hd
    refine fin o _ (I1.write (x := D) (e := D) (o := .frz o (.ext (DX X.prog X.w D xs))) (t' := s1.toks) (by rw [hd]; trivial) (.inl rfl) (fun b u _ e => e) ⟨o, go⟩ ⟨go, dx, ⟨o, go⟩, st⟩) upd_same (q o)
  · exact fin o H1 I1 hd q⟩
end
end Pf

namespace Pf
open PySem PySem.Spec PyProof.Rows L2
/-! ### the layer's words for such dicts -/
abbrev Kv := NestedKey × PyData
def atP (kvs : List Kv) (k : NestedKey) : Option PyData := (kvs.find? fun p => decide (p.1 = k)).map (·.2)
def putP (kvs : List Kv) (k : NestedKey) (d : PyData) : List Kv := if (atP kvs k).isSome = true then kvs.map (fun p => if p.1 = k then (p.1, d) else p) else kvs ++ [(k, d)]
section
variable {K : PySem.W.Frag} {H : Hp} {xs : List Ent} {kvs : List Kv} {k : NestedKey}
theorem kv_len : ∀ {xs : List Ent} {kvs : List Kv}, KvOk K H xs kvs → xs.length = kvs.length
  | _, _, .nil => rfl
  | _, _, .cons _ _ _ d => congrArg Nat.succ (kv_len d)
theorem kv_keys : ∀ {xs : List Ent} {kvs : List Kv}, KvOk K H xs kvs → ∀ x ∈ xs, KeyIn K H x.2.1 x.1
  | _, _, .nil, x, h => absurd h List.not_mem_nil
  | _, _, .cons a _ _ d, x, h => by
    rcases List.mem_cons.mp h with z | z
    · rw [z]; exact a
    · exact kv_keys d x z
theorem kv_at : ∀ {xs : List Ent} {kvs : List Kv}, KvOk K H xs kvs → (atKey xs k = none ∧ atP kvs k = none) ∨ ∃ p d v, atKey xs k = some p ∧ atP kvs k = some d ∧ L2.RelV v p.2 ∧ Dp K H v d
  | _, _, .nil => .inl ⟨rfl, rfl⟩
  | _, _, .cons (k := k') (a := a) (u := u) (v := v) (d := d) ha hr hd r => by
    by_cases e : k' = k
    · refine .inr ⟨(a, u), d, v, ?_, ?_, hr, hd⟩
      · show Option.map _ (List.find? _ (_ :: _)) = _
        rw [List.find?_cons_of_pos (by exact decide_eq_true e)]; rfl
      · show Option.map _ (List.find? _ (_ :: _)) = _
        rw [List.find?_cons_of_pos (by exact decide_eq_true e)]; rfl
    · rcases kv_at r with ⟨h1, h2⟩ | ⟨p, d', v', h1, h2, h3, h4⟩
      · refine .inl ⟨?_, ?_⟩
        · show Option.map _ (List.find? _ (_ :: _)) = _
          rw [List.find?_cons_of_neg (by simpa using e)]; exact h1
        · show Option.map _ (List.find? _ (_ :: _)) = _
          rw [List.find?_cons_of_neg (by simpa using e)]; exact h2
      · refine .inr ⟨p, d', v', ?_, ?_, h3, h4⟩
        · show Option.map _ (List.find? _ (_ :: _)) = _
          rw [List.find?_cons_of_neg (by simpa using e)]; exact h1
        · show Option.map _ (List.find? _ (_ :: _)) = _
          rw [List.find?_cons_of_neg (by simpa using e)]; exact h2
theorem kv_some (h : KvOk K H xs kvs) : (atKey xs k).isSome = (atP kvs k).isSome := by
  rcases kv_at (k := k) h with ⟨h1, h2⟩ | ⟨p, d, v, h1, h2, _⟩ <;> rw [h1, h2] <;> rfl
theorem kv_repl {a : Addr} {v : V} {d : PyData} {u : Value} (hr : L2.RelV v u) (hd : Dp K H v d) : ∀ {xs : List Ent} {kvs : List Kv}, KvOk K H xs kvs → KvOk K H (xs.map (putAt k u)) (kvs.map fun p => if p.1 = k then (p.1, d) else p)
  | _, _, .nil => .nil
  | _, _, .cons (k := k') (a := a) (u := u') ha hr' hd' r => by
    rw [List.map_cons, List.map_cons]
    unfold putAt
    by_cases e : k' = k
    · rw [if_pos e, if_pos e]; exact .cons ha hr hd (kv_repl (a := a) hr hd r)
    · rw [if_neg e, if_neg e]; exact .cons ha hr' hd' (kv_repl (a := a) hr hd r)
theorem kv_app : ∀ {xs : List Ent} {kvs : List Kv} {ys : List Ent} {lvs : List Kv}, KvOk K H xs kvs → KvOk K H ys lvs → KvOk K H (xs ++ ys) (kvs ++ lvs)
  | _, _, _, _, .nil, s => s
  | _, _, _, _, .cons a b c d, s => .cons a b c (kv_app d s)
theorem kv_put {a : Addr} {v : V} {d : PyData} {u : Value} (h : KvOk K H xs kvs) (ha : KeyIn K H a k) (hr : L2.RelV v u) (hd : Dp K H v d) : KvOk K H (storedH xs k a u) (putP kvs k d) := by
  unfold storedH putP
  rw [kv_some h]
  split
  · exact kv_repl (a := a) hr hd h
  · exact kv_app h (.cons ha hr hd .nil)
end
section
variable {P : Program} {w : World} {K : PySem.W.Frag} {X : WX} {env env1 : List SV} {ta tb te tk : TE} {t u : TS} {tt : TT} {d e : PyData} {i : Nat} {oc : Oc} {H H1 : Hp} {σ : L2.St} {kvs : List Kv} {k : NestedKey}
/-- slot i holds such a dict -/
def IsDc (P : Program) (w : World) (env : List SV) (i : Nat) (kvs : List Kv) : Prop := env[i]? = some (.dct P w kvs) ∨ env[i]? = some (.dcf P w kvs)
theorem Stt.dc (st : Stt K H H1 σ env) (h : IsDc P w env i kvs) : ∃ l xs, σ[i]? = some (some (.ref l)) ∧ DAt P w H1 l xs ∧ KvOk K H xs kvs := by
  rcases h with h | h
  · obtain ⟨o, a, l, xs, rfl, _, b, c⟩ := st.get h
    exact ⟨l, xs, a, .inl b, c⟩
  · obtain ⟨o, a, l, o', xs, rfl, b, c⟩ := st.get h
    exact ⟨l, xs, a, .inr ⟨o', st.e _ _ b⟩, c⟩
theorem dp_ref {H : Hp} {k : NestedKey} {v : V} (h : Dp K H v (.tuple d')) : ∃ a, v = .ref a := by
  cases h; exact ⟨_, rfl⟩
/-- a key: a tuple -/
def IsKey (k : NestedKey) : Prop := k.depth ≤ 8 ∧ ∃ ds, k.data = .tuple ds
theorem key_in {v : V} (hk : IsKey k) (h : Dp K H v k.data) : ∃ a, v = .ref a ∧ KeyIn K H a k := by
  obtain ⟨h1, ds, h2⟩ := hk
  have h' := h
  rw [h2] at h'
  obtain ⟨a, rfl⟩ := dp_ref (k := k) h'
  exact ⟨a, rfl, h, h1⟩
theorem DAt.mono {H H' : Hp} {l : Addr} {xs : List Ent} (e : Same H H') (h : DAt P w H l xs) : DAt P w H' l xs := by
  rcases h with h | ⟨o, h⟩
  · exact .inl (e _ _ h)
  · exact .inr ⟨o, e _ _ h⟩
theorem ev_inX {neg : Bool} (hk : IsKey k) (ha : Ev K ta env k.data) (h : IsDc P w env i kvs) : Ev K (tOp (rInX P w K neg) ta (tVar i)) env (.bool (if neg then !(atP kvs k).isSome else (atP kvs k).isSome)) := fun σ H H1 st Q q =>
  ha σ H H1 st _ fun v G H2 f dv => by
    obtain ⟨a, rfl, ki⟩ := key_in hk dv
    obtain ⟨l, xs, e1, e2, e3⟩ := (st.mono f).dc h
    refine ⟨_, e1, a, l, xs, k, rfl, rfl, e2, ki.mono f.r, fun x hx => (kv_keys e3 x hx).mono f.r, ?_⟩
    rw [kv_some e3]
    exact q _ G H2 f (.bl _)
theorem ev_ixX (hk : IsKey k) (h : IsDc P w env i kvs) (ha : Ev K ta env k.data) (hd : atP kvs k = some d) : Ev K (tOp (rIxX P w K) (tVar i) ta) env d := fun σ H H1 st Q q => by
  obtain ⟨l, xs, e1, e2, e3⟩ := st.dc h
  refine ⟨_, e1, ha σ H H1 st _ fun v G H2 f dv => ?_⟩
  obtain ⟨a, rfl, ki⟩ := key_in hk dv
  have e3' := e3.mono f.g
  rcases kv_at (k := k) e3' with ⟨_, h2⟩ | ⟨p, d', v', h1, h2, h3, h4⟩
  · rw [hd] at h2; cases h2
  · rw [hd] at h2; cases h2
    exact ⟨a, l, xs, k, p, v', rfl, rfl, e2.mono f.a, ki.mono f.r, fun x hx => (kv_keys e3' x hx).mono f.r, h1, h3, q v' G H2 f h4⟩
theorem ev_lenX (h : IsDc P w env i kvs) (hz : kvs.length ≤ 100000) : Ev K (tCB (rLenX P w K) (tCons (tVar i) tNil)) env (.int kvs.length) := fun σ H H1 st Q q => by
  obtain ⟨l, xs, e1, e2, e3⟩ := st.dc h
  refine ⟨_, e1, l, xs, rfl, e2, fun x hx => (kv_keys e3 x hx).mono st.e, by rw [kv_len e3]; exact hz, ?_⟩
  rw [kv_len e3]
  exact q _ H H1 (Fr.refl st.e) (.int _)
theorem sx_putX (hk : IsKey k) (h : env[i]? = some (.dct P w kvs)) (he : Ev K te env d) (ha : Ev K tk env k.data) (hz : kvs.length < 100000) : Sx K X (tAsg te (gSub (tVar i) tk (rSetX P w K))) env (.nx (env.set i (.dct P w (putP kvs k d)))) := fun σ H H1 st D q =>
  he σ H H1 st _ fun v G H2 f dv => by
    have st2 := st.mono f
    obtain ⟨o, e1, l, xs, rfl, _⟩ := st2.get h
    refine ⟨_, e1, ha σ G H2 st2 _ fun kv G3 H3 f3 dk => ?_⟩
    obtain ⟨a, rfl, ki⟩ := key_in hk dk
    have st3 := st2.mono f3
    obtain ⟨o, e1', l', xs', rfl, b1, b2, b3⟩ := st3.get h
    rw [e1] at e1'; cases e1'
    refine ⟨a, l, xs', k, rfl, rfl, b2, ki.mono f3.r, fun x hx => (kv_keys b3 x hx).mono f3.r, by rw [kv_len b3]; exact hz, fun u ru => ?_⟩
    obtain ⟨w1, w2, w3⟩ := st3.write (o := .ext (DX P w l (storedH xs' k a u))) (s' := .dct P w (putP kvs k d)) h rfl e1 ⟨l, _, rfl, b1, upd_same, kv_put b3 ki ru (dm f3.g dv)⟩ rfl
    exact q σ _ _ (((f.tr0 f3).mono fun _ z => z.elim).trans w2 fun p z => .inl z) w1 fun p z => .inl (w3 p z)
theorem sx_newX : Sx K X (tAsg (tNewX P w) (gName i)) env (.nx (env.set i (.dct P w []))) := fun σ H H1 st D q => fun p hp => by
  have f : Fr0 H H1 H (upd H1 p (.ext (DX P w p []))) := Fr.hid st.e hp
  refine q _ H _ (f.mono fun _ z => z.elim) ((st.mono f).setO ⟨p, [], rfl, st.e.free hp, upd_same, .nil⟩ fun j s a b _ z => (st.owned ⟨j, s, a, b, z⟩).2 hp) fun l z => ?_
  rcases Ow.set z with z | ⟨_, z⟩
  · exact .inl z
  · cases z; exact .inr hp
theorem sx_dispX (hk : IsKey k) (ha : Ev K tk env k.data) (he : Ev K te env d) : Sx K X (tAsg (tDispX P w K tk te) (gName i)) env (.nx (env.set i (.dct P w [(k, d)]))) := fun σ H H1 st D q => fun p hp => by
  have f0 : Fr0 H H1 H (upd H1 p (.ext (DX P w p []))) := Fr.hid st.e hp
  refine ha σ H _ (st.mono f0) _ fun kv G H2 f1 dk => he σ G H2 ((st.mono f0).mono f1) _ fun v G2 H3 f2 dv => ?_
  obtain ⟨a, rfl, ki⟩ := key_in hk dk
  have hg : G2 p = none := by
    have g1 : G p = none := f1.n p (fun z => z) (st.e.free hp) (by rw [upd_same]; exact fun z => nomatch z)
    exact f2.n p (fun z => z) g1 (by rw [f1.a _ _ upd_same]; exact fun z => nomatch z)
  refine ⟨f2.a _ _ (f1.a _ _ upd_same), a, k, v, rfl, (ki.mono f2.g).mono f2.r, fun u ru => ?_⟩
  have ff := (f0.tr0 f1).tr0 f2
  have e2 : Same G2 (upd H3 p (.ext (DX P w p [(k, a, u)]))) := fun b x z => by
    rw [upd_ne (ne_of_none z hg)]; exact ff.r b x z
  have f3 : Fr0 H H1 G2 (upd H3 p (.ext (DX P w p [(k, a, u)]))) := ⟨ff.g, e2, fun b x nw z => by
    have n : b ≠ p := fun y => by rw [y, hp] at z; cases z
    rw [upd_ne n]; exact ff.s b x nw z, ff.n, fun b z => ff.m b (upd_none z)⟩
  refine q _ G2 _ (f3.mono fun _ z => z.elim) ((st.mono f3).setO ⟨p, [(k, a, u)], rfl, hg, upd_same, .cons (ki.mono f2.g) ru dv .nil⟩ fun j s b1 b2 _ z => (st.owned ⟨j, s, b1, b2, z⟩).2 hp) fun l z => ?_
  rcases Ow.set z with z | ⟨_, z⟩
  · exact .inl z
  · cases z; exact .inr hp
/-- a dict of one's own is from now on held as it is -/
theorem Stt.freezeX (st : Stt K H H1 σ env) (h : env[i]? = some (.dct P w kvs)) : ∃ l xs, σ[i]? = some (some (.ref l)) ∧ H1 l = some (.ext (DX P w l xs)) ∧ KvOk K H xs kvs ∧ ∀ o, Stt K (upd H l (.frz o (.ext (DX P w l xs)))) (upd H1 l (.frz o (.ext (DX P w l xs)))) σ (env.set i (.dcf P w kvs)) ∧ Fr (Ow σ env) H H1 (upd H l (.frz o (.ext (DX P w l xs)))) (upd H1 l (.frz o (.ext (DX P w l xs)))) ∧ ∀ p, Ow σ (env.set i (.dcf P w kvs)) p → Ow σ env p := by
  have hi : i < env.length := (List.getElem?_eq_some_iff.mp h).1
  obtain ⟨o0, a, l, xs, rfl, b, c, kv⟩ := st.get h
  refine ⟨l, xs, a, c, kv, fun o => ?_⟩
  have hw : Ow σ env l := ⟨i, _, h, rfl, a⟩
  have f : Fr (fun p => p = l) H H1 (upd H l (.frz o (.ext (DX P w l xs)))) (upd H1 l (.frz o (.ext (DX P w l xs)))) := by
    refine ⟨newS b, fun p x z => ?_, fun p x nw z => ?_, fun p nw z _ => ?_, fun p z => upd_none z⟩
    · by_cases e : p = l
      · subst e; rw [upd_same] at z ⊢; exact z
      · rw [upd_ne e] at z ⊢; exact st.e p x z
    · rw [upd_ne (show p ≠ l from nw)]; exact z
    · rw [upd_ne (show p ≠ l from nw)]; exact z
  have st0 : Stt K H H1 σ (env.set i .no) := st.re h (fun _ _ _ => trivial) fun z => nomatch z
  have st1 := st0.monoW f fun p z e => by
    obtain ⟨j, s, e1, e2, e3⟩ := z
    by_cases c1 : i = j
    · subst c1; rw [List.getElem?_set_self hi] at e1; cases e1; cases e2
    · rw [List.getElem?_set_ne c1] at e1
      subst e
      exact st.ne i j _ _ _ c1 h e1 rfl e2 a e3
  have st2 := st1.re (i := i) (s := .no) (s' := .dcf P w kvs) (List.getElem?_set_self hi) (fun o' e _ => by
    rw [a] at e; cases e
    exact ⟨l, o, xs, rfl, upd_same, kv.mono (newS b)⟩) fun z => nomatch z
  rw [List.set_set] at st2
  refine ⟨st2, f.mono fun p z => by rw [z]; exact hw, fun p z => ?_⟩
  exact Ow.re (s' := .dcf P w kvs) h (fun z => by cases z) z
/-- for k in d, a turn may end the whole -/
theorem sx_forXE {g : TG} (h : IsDc P w env i kvs) (Inv : Nat → List SV) (h0 : Inv 0 = env.set i (.dcf P w kvs)) (o : Nat → Bool) (ex : Oc) (hx : ex.isNx = false) (hb : ∀ e, ex ≠ .bk e) (hc : ∀ e, ex ≠ .ct e)
    (go : ∀ (n : Nat) (k : NestedKey), (kvs.map (·.1))[n]? = some k → (∀ j, j < n → o j = false) → ∃ env', Tg K g (Inv n) k.data env' ∧ ((o n = false → Go K X t env' (Inv (n + 1))) ∧ (o n = true → oc = ex ∧ Sx K X t env' ex)))
    (rest : (∀ j, j < kvs.length → o j = false) → Sx K X u (Inv kvs.length) oc) : Sx K X (tSeq (tFor (iX P w (tVar i)) g t) u) env oc := fun σ H H1 st D q => by
  have main : ∀ (l : Addr) (ob : Obj) (xs : List Ent) (G0 H2 : Hp), G0 l = some (.frz ob (.ext (DX P w l xs))) → KvOk K G0 xs kvs → Stt K G0 H2 σ (env.set i (.dcf P w kvs)) → Fr (Ow σ env) H H1 G0 H2 → (∀ p, Ow σ (env.set i (.dcf P w kvs)) p → Ow σ env p) →
      ∃ W : Nat → Nat → L2.St → Hp → Prop, (∃ m, W 0 m σ H2) ∧ ∀ (n m : Nat) (σ' : L2.St) (H' : Hp), W n m σ' H' → ((Itx P w l ob xs).stop n H' ∧ u D σ' H') ∨ ((Itx P w l ob xs).go n H' ∧ ∃ N : L2.St → Hp → Prop, (∀ σ2 Hx, N σ2 Hx → ∃ m', m' < m ∧ W (n + 1) m' σ2 Hx) ∧ ∀ x Hx, (Itx P w l ob xs).yld n H' x Hx → g x σ' Hx fun σ2 Hy => t { nx := N, rt := D.rt, bk := u D, ct := N } σ2 Hy) := by
    intro l ob xs G0 H2 hf kv st0 f' ow0
    have hlen := kv_len kv
    refine ⟨fun n m σ' H' => m = kvs.length - n ∧ n ≤ kvs.length ∧ Pt K (Ow σ env) G0 H2 Inv n σ' H' ∧ ∀ j, j < n → o j = false, ⟨kvs.length, rfl, Nat.zero_le _, ⟨G0, Fr.refl f'.r, by rw [h0]; exact st0, fun p z => .inl (by rw [h0] at z; exact ow0 p z)⟩, fun j hj => absurd hj (Nat.not_lt_zero j)⟩, ?_⟩
    rintro n m σ' H' ⟨rfl, hn, ⟨G, fr, st2, ow⟩, hj⟩
    have hd : H' l = some (.frz ob (.ext (DX P w l xs))) := fr.r _ _ (fr.g _ _ hf)
    have kv2 := kv.mono fr.g
    by_cases hlt : n < kvs.length
    · have hlt' : n < xs.length := by rw [hlen]; exact hlt
      refine .inr ⟨⟨hd, hlt'⟩, fun σ' H' => Pt K (Ow σ env) G0 H2 Inv (n + 1) σ' H' ∧ ∀ j, j < n + 1 → o j = false, fun σ2 Hx p => ⟨kvs.length - (n + 1), by omega, rfl, hlt, p⟩, fun x Hx y => ?_⟩
      obtain ⟨rfl, e, he, rfl⟩ := y
      have at' : ∀ {xs : List Ent} {kvs : List Kv} (n : Nat) {e : Ent}, KvOk K G xs kvs → xs[n]? = some e → (kvs.map (·.1))[n]? = some e.1 ∧ KeyIn K G e.2.1 e.1 := by
        intro xs kvs n e hk
        induction hk generalizing n with
        | nil => intro z; simp at z
        | cons ha _ _ _ ih =>
          intro z
          cases n with
          | zero => simp at z; subst z; exact ⟨rfl, ha⟩
          | succ n => simp at z; exact ih n z
      obtain ⟨ek, ki⟩ := at' n kv2 he
      obtain ⟨env', tg, g1, g2⟩ := go n e.1 ek hj
      refine tg σ' G Hx (.ref e.2.1) st2 ki.1 _ fun σ2 st3 o3 => ?_
      have ow3 : ∀ l, Ow σ2 env' l → Ow σ env l ∨ H2 l = none := fun l z => ow l (o3 l z)
      cases hoi : o n with
      | false =>
        have nx : ∀ σ3 G3 Hy, Fr (Ow σ2 env') G Hx G3 Hy → Stt K G3 Hy σ3 (Inv (n + 1)) → (∀ l, Ow σ3 (Inv (n + 1)) l → Ow σ2 env' l ∨ Hx l = none) → Pt K (Ow σ env) G0 H2 Inv (n + 1) σ3 Hy ∧ ∀ j, j < n + 1 → o j = false := fun σ3 G3 Hy f3 st4 o4 =>
          ⟨⟨G3, fr.trans f3 ow3, st4, fun l z => (o4 l z).elim (ow3 l) fun z => .inr (fr.m l z)⟩, fun j hj' => by
            rcases Nat.lt_succ_iff_lt_or_eq.mp hj' with z | z
            · exact hj j z
            · rw [z]; exact hoi⟩
        rcases g1 hoi with w | w
        · exact w σ2 G Hx st3 _ nx
        · exact w σ2 G Hx st3 _ nx
      | true =>
        obtain ⟨eo, w⟩ := g2 hoi
        refine w σ2 G Hx st3 _ ?_
        have q' : OcOk K X (Ow σ2 env') D G Hx ex := by
          rw [eo] at q
          refine (q.tr f' fun l z => .inl z).tr fr ow3
        cases ex with
        | nx e => cases hx
        | bk e => exact absurd rfl (hb e)
        | ct e => exact absurd rfl (hc e)
        | ex c e => exact q'
        | rt d => exact q'
        | rl x => exact q'
        | rr v => exact q'
        | rw vs e => exact q'
    · have en : n = kvs.length := by omega
      subst en
      refine .inl ⟨⟨hd, by omega⟩, ?_⟩
      exact rest hj σ' G H' st2 D ((q.tr f' fun l z => .inl z).tr fr ow)
  rcases h with h | h
  · obtain ⟨l, xs, a, c, kv, mk⟩ := st.freezeX h
    refine ⟨_, a, l, xs, rfl, .inl ⟨c, fun ob => ?_⟩⟩
    obtain ⟨st0, f', ow0⟩ := mk ob
    exact main l ob xs _ _ upd_same (kv.mono f'.g) st0 f' ow0
  · obtain ⟨o0, a, l, ob, xs, rfl, b, kv⟩ := st.get h
    have e : env.set i (.dcf P w kvs) = env := by
      refine List.ext_getElem? fun j => ?_
      by_cases c : i = j
      · subst c; rw [List.getElem?_set_self (List.getElem?_eq_some_iff.mp h).1, h]
      · rw [List.getElem?_set_ne c]
    refine ⟨_, a, l, xs, rfl, .inr ⟨ob, st.e _ _ b, ?_⟩⟩
    exact main l ob xs H H1 b kv (by rw [e]; exact st) (Fr.refl st.e) fun p z => by rw [e] at z; exact z
end
end Pf

namespace Pf
open PySem PySem.Spec PyProof.Rows L2
section
variable {K : PySem.W.Frag} {X : WX} {te : TE} {env : List SV} {xs : List PyData} {oc : Oc} {t : TS} {tt : TT}
/-- within an expression that gives a new list of whole numbers, one's own list may be read as data -/
theorem eo_fixI {ns : List Int} (i : Nat) (h : env[i]? = some (.own xs)) (k : EvO K te (env.set i (.dat (.list xs))) (ns.map .int)) : EvO K te env (ns.map .int) := fun σ H H1 st Q q => by
  obtain ⟨l, vs, a, b, c, st'⟩ := st.freeze h
  refine k σ _ H1 st' Q fun p ws G H2 f hp hg h2 dv => ?_
  refine q p ws H H2 ⟨Same.refl _, (newS b).trans (f.g.trans f.r), f.s, fun _ _ z _ => z, f.m⟩ hp (st.e.free hp) h2 ?_
  rw [dpa_ints dv]; exact dpa_of_ints _
/-- [e for target in a tuple of data if ..] -/
theorem eo_lcT {tl : TE} {α : Type} (xs : List α) (en : α → PyData) (f : α → Bool) (w : α → PyData) {g : TG} {vs : List Nat} (h : Ev K tl env (.tuple (xs.map en))) (hz : xs.length < 100000) (turn : ∀ x ∈ xs, ∃ env', Tgw K vs g (wipeE env vs) (en x) env' ∧ EvT K tt env' (f x) ∧ (f x = true → Ev K te env' (w x))) :
    EvO K (tLc (iTup K tl) g tt te vs) env ((xs.filter f).map w) := fun σ H H1 st Q q => by
  refine h σ H H1 st _ fun v G0 H2 f0 dv => ?_
  cases dv with
  | @tup a as _ hl hd =>
    refine ⟨a, rfl, ⟨as, sqt f0.r hl⟩, fun D hD => ?_⟩
    have st0 := st.mono f0
    have nD : ∀ l, Ow (L2.wipe σ vs) (wipeE env vs) l → ¬ l = D := fun l z e => by
      have := (st0.owned (Ow.wipe z)).2
      exact this (by rw [e]; exact hD)
    have hlen : as.length = xs.length := by rw [dpa_len hd, List.length_map]
    refine lc_tup (K := K) (a := a) (xs := as) (fun i H' => Mk K G0 H2 D (((xs.take i).filter f).map w) H') (mk_start f0.r hD) (fun i H' _ p => ?_) (fun i x H' hi p => ?_) (fun H' p => ?_)
    · obtain ⟨G, ac, f1, _⟩ := p
      exact sqt f1.r (sqt f1.g hl)
    · obtain ⟨G, ac, f1, hG, ha, da⟩ := p
      obtain ⟨d, e1, e2⟩ := dpa_get hd hi
      rw [List.getElem?_map] at e1
      cases ex : xs[i]? with
      | none => rw [ex] at e1; cases e1
      | some x' =>
        rw [ex] at e1
        obtain rfl : en x' = d := Option.some.inj e1
        obtain ⟨env', tg, ht, he⟩ := turn x' (List.mem_of_getElem? ex)
        refine tg _ G H' x ((st0.wipe vs).monoW f1 nD) (dm f1.g e2) _ fun σ' st' o hw => ⟨?_, ?_⟩
        · rw [hw]; exact wipe_wipe fun _ z => z
        · rw [filter_next ex]
          exact mk_turn f1 hG ha da (take_short hz) st' ht he
    · obtain ⟨G, ac, f1, hG, ha, da⟩ := p
      have ff : Fr0 H H1 G H' := f0.trans f1 fun p z => .inr (by rw [z]; exact f0.a.free hD)
      rw [hlen, List.take_length] at da
      exact q D ac G H' ff (f0.a.free hD) hG ha da
/-- while: n turns -/
theorem sx_while {n : Nat} (Inv : Nat → List SV) (h0 : Inv 0 = env) (go : ∀ i, i < n → EvT K tt (Inv i) true ∧ Go K X t (Inv i) (Inv (i + 1))) (he : EvT K tt (Inv n) false) : Sx K X (tWhile tt t) env (.nx (Inv n)) := fun σ H H1 st D q => by
  refine ⟨fun m σ' H' => ∃ i, i ≤ n ∧ m = n - i ∧ Pt K (Ow σ env) H H1 Inv i σ' H', ⟨n, 0, Nat.zero_le _, rfl, ⟨H, Fr.refl st.e, by rw [h0]; exact st, fun l z => .inl (by rw [h0] at z; exact z)⟩⟩, fun m σ' H' p => ?_⟩
  obtain ⟨i, hi, rfl, G, f2, st2, ow⟩ := p
  by_cases c : i < n
  · obtain ⟨g0, g1⟩ := go i c
    refine g0 σ' G H' st2 _ fun G3 H3 f3 => ?_
    rw [if_pos rfl]
    refine ⟨fun σ'' H'' => Pt K (Ow σ env) H H1 Inv (i + 1) σ'' H'', fun σ'' H'' p => ⟨n - (i + 1), by omega, i + 1, c, rfl, p⟩, ?_⟩
    have st3 := st2.mono f3
    have f23 := f2.tr0 f3
    have nx : ∀ σ3 G4 H4, Fr (Ow σ' (Inv i)) G3 H3 G4 H4 → Stt K G4 H4 σ3 (Inv (i + 1)) → (∀ l, Ow σ3 (Inv (i + 1)) l → Ow σ' (Inv i) l ∨ H3 l = none) → Pt K (Ow σ env) H H1 Inv (i + 1) σ3 H4 := fun σ3 G4 H4 f4 st4 o4 =>
      ⟨G4, f23.trans f4 ow, st4, fun l z => (o4 l z).elim (ow l) fun z => .inr (f23.m l z)⟩
    rcases g1 with w | w
    · exact w σ' G3 H3 st3 _ nx
    · exact w σ' G3 H3 st3 _ nx
  · obtain rfl : i = n := by omega
    refine he σ' G H' st2 _ fun G3 H3 f3 => ?_
    rw [if_neg (by decide)]
    exact q σ' G3 H3 (f2.tr0 f3) (st2.mono f3) ow
end
end Pf

/-! texts -/
namespace Pf
open PySem PySem.Spec PyProof.Rows L2
section
variable {K : PySem.W.Frag} {X : WX} {env : List SV} {ta tb te : TE} {xs ys : List PyData} {d : PyData} {aa : TA}
theorem EvL.is (h : EvL K te env xs) (q : xs = ys) : EvL K te env ys := q ▸ h
/-- the parts of a text with braces -/
inductive EvJ (K : PySem.W.Frag) (env : List SV) : List TE → List Str → Prop where
  | nil : EvJ K env [] []
  | cons {te : TE} {y : Str} {ts : List TE} {zs : List Str} : Ev K te env (.str y) → EvJ K env ts zs → EvJ K env (te :: ts) (y :: zs)
def catS (acc : Str) (ys : List Str) : Str := ys.foldl (· ++ ·) acc
theorem len_app (a b : Str) : (a ++ b).length = a.length + b.length := by
  show (a.cps ++ b.cps).size = _
  rw [Array.size_append]; rfl
theorem catS_len : ∀ (ys : List Str) (acc : Str), acc.length ≤ (catS acc ys).length
  | [], acc => Nat.le_refl _
  | y :: r, acc => Nat.le_trans (by rw [len_app]; omega) (catS_len r (acc ++ y))
theorem tjs_ev : ∀ {ts : List TE} {ys : List Str}, EvJ K env ts ys → ∀ (acc : Str), (catS acc ys).length ≤ 100000 → ∀ σ H H1, Stt K H H1 σ env → ∀ Q : Str → Hp → Prop, (∀ G H2, Fr0 H H1 G H2 → Q (catS acc ys) H2) → tJs ts acc σ H1 Q
  | _, _, .nil, acc, _, σ, H, H1, st, Q, q => q H H1 (Fr.refl st.e)
  | _, _, .cons (y := y) (zs := zs) h t, acc, hz, σ, H, H1, st, Q, q => h σ H H1 st _ fun v G H2 f dv => by
    cases dv
    refine ⟨y, rfl, sz_ok (Nat.le_trans (catS_len zs (acc ++ y)) hz), tjs_ev t (acc ++ y) hz σ G H2 (st.mono f) Q fun G3 H3 f3 => q G3 H3 (f.tr0 f3)⟩
theorem ev_js {ts : List TE} {ys : List Str} (h : EvJ K env ts ys) (hz : (catS Str.empty ys).length ≤ 100000) : Ev K (fun σ H Q => tJs ts Str.empty σ H fun out H1 => Q (.str out) H1) env (.str (catS Str.empty ys)) := fun σ H H1 st Q q =>
  tjs_ev h Str.empty hz σ H H1 st _ fun G H2 f => q _ G H2 f (.str _)
def intS (n : Int) : Str := Str.ofString (toString n)
/-- text + text -/
theorem ev_addS {a b : Str} (ha : Ev K ta env (.str a)) (hb : Ev K tb env (.str b)) (hz : a.length + b.length ≤ 100000) : Ev K (tOp (fun x y H Q => ∃ i j, x = .str i ∧ y = .str j ∧ i.length + j.length ≤ sizeLine ∧ Q (.str (i ++ j)) H) ta tb) env (.str (a ++ b)) :=
  ev_op ha hb fun x y H H1 Q e dx dy q => by
    cases dx; cases dy
    exact ⟨a, b, rfl, rfl, sz_ok hz, q _ H H1 (Fr.refl e) (.str _)⟩
/-- str(n) -/
theorem ev_strI {n : Int} (h : Ev K te env (.int n)) (hn : n.natAbs.log2 < 1920) : Ev K (tCB (fun xs H Q => ∃ i, xs = [.int i] ∧ i.natAbs.log2 < 1920 ∧ Q (.str (toString i)) H) (tCons te tNil)) env (.str (intS n)) :=
  ev_cb (ea_cons h ea_nil) fun vs H H1 Q e dv q => by
    cases dv with
    | cons a b =>
      cases a; cases b
      exact ⟨n, rfl, hn, q _ H H1 (Fr.refl e) (.str _)⟩
def rJoin (K : PySem.W.Frag) : V → List V → Hp → VK → Prop := fun x xs H Q => ∃ a p, ∃ ys : List Str, x = .str a ∧ xs = [.ref p] ∧ (SqL K H p (ys.map V.str) ∨ SqT K H p (ys.map V.str)) ∧ (ys.map (·.length)).sum + ys.length * a.length ≤ 16777216 ∧ Q (.str (Txt.join a ys)) H
theorem mt_joinK {X : Cx} : MtR X "str.join" (rJoin X.K) := mt_join
theorem dpa_strs : ∀ {ns : List Str} {H : Hp} {vs : List V}, DpAll K H vs (ns.map PyData.str) → vs = ns.map V.str
  | [], _, _, h => by cases h; rfl
  | n :: r, _, _, h => by
    cases h with
    | cons a b => cases a; rw [dpa_strs b]; rfl
/-- sep.join(list of texts) -/
theorem ev_join {s : Str} {ns : List Str} (ha : Ev K ta env (.str s)) (hb : EvL K tb env (ns.map .str)) (hz : (ns.map (·.length)).sum + ns.length * s.length ≤ 16777216) : Ev K (tM1 (rJoin K) ta tb) env (.str (Txt.join s ns)) := fun σ H H1 st Q q =>
  ha σ H H1 st _ fun v G H2 f dv => by
    cases dv
    refine ⟨⟨s, rfl⟩, hb σ G H2 (st.mono f) _ fun p vs G3 H3 f3 h3 d3 => ?_⟩
    rw [dpa_strs d3] at h3
    exact ⟨s, p, ns, rfl, rfl, .inl (.inl (.inl h3)), hz, q _ G3 H3 (f.tr0 f3) (.str _)⟩
/-- xs.extend(list) -/
theorem sx_ext {i : Nat} (h : env[i]? = some (.own xs)) (he : EvO K te env ys) (hz : xs.length + ys.length ≤ 100000) : Sx K X (tDrop (tBM K "list" rExtend (tVar i) (tCons te tNil))) env (.nx (env.set i (.own (xs ++ ys)))) := fun σ H H1 st D q => by
  obtain ⟨l, vs, a, b, c, dv⟩ := st.own h
  refine ⟨_, a, .inl ⟨rfl, _, .inl (.inl c)⟩, he σ H H1 st _ fun p ws G H2 f hp hg h2 dw => ?_⟩
  have st2 := st.mono f
  obtain ⟨l', vs', a', b', c', dv'⟩ := st2.own h
  rw [a] at a'; cases a'
  refine ⟨l, p, vs', ws, rfl, rfl, c', h2, sz_ok (by rw [dpa_len dv', dpa_len dw]; exact hz), ?_⟩
  obtain ⟨w1, w2, w3⟩ := st2.write (o := .lst (vs' ++ ws)) (s' := .own (xs ++ ys)) h rfl a ⟨l, vs' ++ ws, rfl, b', upd_same, dpa_app dv' dw⟩ rfl
  exact q σ _ _ ((f.mono fun _ z => z.elim).trans w2 fun p z => .inl z) w1 fun p z => .inl (w3 p z)
theorem join_snoc (s : Str) : ∀ (ns : List Str) (y : Str), ns ≠ [] → Txt.join s (ns ++ [y]) = Txt.join s ns ++ s ++ y
  | [], _, h => absurd rfl h
  | a :: r, y, _ => by
    show Builtin.Str.glued s (a :: (r ++ [y])) = Builtin.Str.glued s (a :: r) ++ s ++ y
    unfold Builtin.Str.glued
    show (⟨(r ++ [y]).foldl _ _⟩ : Str) = ⟨(r.foldl _ _ ++ s.cps) ++ y.cps⟩
    rw [List.foldl_append]; rfl
theorem app_assoc (a b c : Str) : a ++ b ++ c = a ++ (b ++ c) := by
  show (⟨(a.cps ++ b.cps) ++ c.cps⟩ : Str) = ⟨a.cps ++ (b.cps ++ c.cps)⟩
  rw [Array.append_assoc]
theorem empty_app (a : Str) : Str.empty ++ a = a := by
  show (⟨#[] ++ a.cps⟩ : Str) = a
  rw [Array.empty_append]
theorem app_empty (a : Str) : a ++ Str.empty = a := by
  show (⟨a.cps ++ #[]⟩ : Str) = a
  rw [Array.append_empty]
end
end Pf

namespace MG
open PySem PySem.Spec PyProof.Rows L2 Pf
/-! ### the mazes as data -/
abbrev Door := Int × Int × Option Int
abbrev Key2 := Int × Int
structure Maze where
  n : Int
  ds : List Door
  ks : List Key2
def optD : Option Int → PyData
  | none => .none
  | some i => .int i
def doorD (d : Door) : PyData := .tuple [.int d.1, .int d.2.1, optD d.2.2]
def keyD (k : Key2) : PyData := .tuple [.int k.1, .int k.2]
def mazeD (m : Maze) : PyData := .tuple [.int m.n, .list (m.ds.map doorD), .list (m.ks.map keyD)]
def handD (l : List Int) : PyData := .tuple (l.map .int)
/-- the kinds that lie in the room, rising, each once -/
def insI (x : Int) : List Int → List Int
  | [] => [x]
  | y :: r => if x < y then x :: y :: r else if x = y then y :: r else y :: insI x r
def rise (l : List Int) : List Int := l.foldr insI []
theorem insI_mem {x k : Int} : ∀ {l : List Int}, k ∈ insI x l ↔ k = x ∨ k ∈ l
  | [] => by simp [insI]
  | y :: r => by
    unfold insI
    split
    · simp
    · split
      · rename_i h; subst h; simp
      · rw [List.mem_cons, insI_mem, List.mem_cons]
        constructor
        · rintro (h | h | h) <;> simp [h]
        · rintro (h | h | h) <;> simp [h]
theorem insI_up {x : Int} : ∀ {l : List Int}, l.Pairwise (· < ·) → (insI x l).Pairwise (· < ·)
  | [], _ => by simp [insI]
  | y :: r, h => by
    have h' := List.pairwise_cons.mp h
    unfold insI
    split
    · rename_i c
      refine List.pairwise_cons.mpr ⟨fun k hk => ?_, h⟩
      rcases List.mem_cons.mp hk with z | z
      · rw [z]; exact c
      · exact Int.lt_trans c (h'.1 k z)
    · split
      · exact h
      · rename_i c1 c2
        refine List.pairwise_cons.mpr ⟨fun k hk => ?_, insI_up h'.2⟩
        rcases insI_mem.mp hk with z | z
        · subst z; omega
        · exact h'.1 k z
theorem rise_mem {k : Int} : ∀ {l : List Int}, k ∈ rise l ↔ k ∈ l
  | [] => by simp [rise]
  | x :: r => by
    show k ∈ insI x (rise r) ↔ _
    rw [insI_mem, rise_mem, List.mem_cons]
theorem rise_up : ∀ (l : List Int), (rise l).Pairwise (· < ·)
  | [] => List.Pairwise.nil
  | x :: r => insI_up (rise_up r)
def keysAmong (ks : List Key2) (rs : List Int) : List Int := rise ((ks.filter fun k => decide (k.1 ∈ rs)).map (·.2))
def keysIn (ks : List Key2) (r : Int) : List Int := rise ((ks.filter fun k => decide (k.1 = r)).map (·.2))
def taken (ks : List Key2) (r : Int) (held : List Int) : List Int := rise (held ++ keysIn ks r)
def inRoom (n r : Int) : Prop := 0 ≤ r ∧ r < n
instance (n r : Int) : Decidable (inRoom n r) := by unfold inRoom; infer_instance
theorem ints_len {l : List Int} : (l.map PyData.int).length = l.length := List.length_map _
theorem atI_nat' {α : Type} {xs : List α} {j : Nat} {x : α} (h : xs[j]? = some x) : atI xs (j : Int) = some x := by
  have hj := (List.getElem?_eq_some_iff.mp h).1
  unfold atI ixN
  rw [if_pos (by omega), if_pos (by omega)]
  show xs[(j : Int).toNat]? = _
  rw [Int.toNat_natCast]; exact h
theorem atI_int {α : Type} {xs : List α} {i : Int} {x : α} (h0 : 0 ≤ i) (h : xs[i.toNat]? = some x) : atI xs i = some x := by
  have hj := (List.getElem?_eq_some_iff.mp h).1
  unfold atI ixN
  rw [if_pos h0, if_pos (by omega)]
  exact h
theorem eqv_int (i j : Int) : PyData.eqv (.int i) (.int j) = decide (i = j) := by
  by_cases h : i = j
  · subst h; simp [PyData.eqv]
  · rw [decide_eq_false h]; simp [PyData.eqv, h]
theorem ints_flat (l : List Int) : (l.map PyData.int).all flatD = true := by
  rw [List.all_eq_true]
  intro z hz
  obtain ⟨i, _, rfl⟩ := List.mem_map.mp hz; rfl
theorem ints_any (l : List Int) (k : Int) : ((l.map PyData.int).any fun z => eqF z (.int k)) = decide (k ∈ l) := by
  rw [Bool.eq_iff_iff, List.any_eq_true, decide_eq_true_eq]
  constructor
  · rintro ⟨z, hz, h⟩
    obtain ⟨i, hi, rfl⟩ := List.mem_map.mp hz
    have : i = k := of_decide_eq_true h
    rw [← this]; exact hi
  · intro h
    exact ⟨.int k, List.mem_map.mpr ⟨k, h, rfl⟩, decide_eq_true rfl⟩
local macro_rules
  | `(tactic| walk_at "ev1") => `(tactic| first
    | ((with_reducible apply ev_var); exact rfl)
    | ((with_reducible apply ev_c); exact rfl)
    | with_reducible apply ev_eqI
    | with_reducible apply ev_neI
    | with_reducible apply ev_I0
    | with_reducible apply ev_I
    | with_reducible apply ev_U
    | with_reducible apply ev_isN
    | with_reducible apply ev_notN
    | with_reducible apply ev_call
    | with_reducible apply ev_tup
    | with_reducible apply ev_lst
    | with_reducible apply ev_inT
    | with_reducible apply ev_niT
    | with_reducible apply ev_abs
    | with_reducible apply ev_intb
    | with_reducible apply ev_min2
    | with_reducible apply ev_max2
    | with_reducible apply ea_cons
    | with_reducible exact ea_nil
    | with_reducible apply ev_andV
    | with_reducible apply ev_orV
    | with_reducible apply ev_notV
    | with_reducible apply ev_if
    | with_reducible apply et_test
    | with_reducible apply et_B
    | with_reducible apply et_and
    | with_reducible apply et_or
    | with_reducible apply et_not
    | ((with_reducible apply el_var); exact rfl)
    | with_reducible intro _
    | (show vd _ = some _; rfl)
    | exact Nat.le_of_ble_eq_true rfl
    | (show flatD _ = true; rfl)
    | (show List.all _ flatD = true; rfl)
    | exact (cm1 ⟨by decide, by decide⟩)
    | exact (cm0 ⟨by decide, by decide⟩)
    | (show CDiv _ _; exact ⟨by decide, by decide⟩)
    | (show CPow _ _; exact ⟨by decide, by decide, by decide⟩))
local macro_rules
  | `(tactic| walk_at "ev") => `(tactic| repeat' walk_at "ev1")
local macro_rules
  | `(tactic| walk_at "less") => `(tactic| repeat' first
    | exact Less.nil
    | apply Less.keep
    | apply Less.drop)

def topS (i : Nat) : Stmt := PySem.Challenge.pw_mazeguide_k11_written.main.body.getD i (.Pass ⟨0, 0, 0, 0⟩)
abbrev s_written : Stmt := topS 1
abbrev n_written : List PySem.Str := ["maze", "rooms", "doors", "keys", "rows", "door", "key"]
theorem sc_written : FnScope n_written ["maze"] (defScope s_written) := ⟨rfl, rfl, rfl, by decide +kernel, rfl, by decide +kernel, by decide +kernel⟩
abbrev s_door_row : Stmt := topS 2
abbrev n_door_row : List PySem.Str := ["door", "one", "other", "lock"]
theorem sc_door_row : FnScope n_door_row ["door"] (defScope s_door_row) := ⟨rfl, rfl, rfl, by decide +kernel, rfl, by decide +kernel, by decide +kernel⟩
abbrev s_key_row : Stmt := topS 3
abbrev n_key_row : List PySem.Str := ["key", "room", "kind"]
theorem sc_key_row : FnScope n_key_row ["key"] (defScope s_key_row) := ⟨rfl, rfl, rfl, by decide +kernel, rfl, by decide +kernel, by decide +kernel⟩
abbrev s_l_mix : Stmt := topS 5
abbrev n_l_mix : List PySem.Str := ["_law_cell", "_law_k", "_law_number"]
theorem sc_l_mix : FnScope n_l_mix ["_law_cell", "_law_k"] (defScope s_l_mix) := ⟨rfl, rfl, rfl, by decide +kernel, rfl, by decide +kernel, by decide +kernel⟩
abbrev s_l_cell_at : Stmt := topS 6
abbrev n_l_cell_at : List PySem.Str := ["_law_script", "_law_k"]
theorem sc_l_cell_at : FnScope n_l_cell_at ["_law_script", "_law_k"] (defScope s_l_cell_at) := ⟨rfl, rfl, rfl, by decide +kernel, rfl, by decide +kernel, by decide +kernel⟩
abbrev s_law : Stmt := topS 7
abbrev n_law : List PySem.Str := ["_law_script", "_law_size", "_law_more", "_law_k", "_law_doors", "_law_due", "_law_one", "_law_other", "_law_lock", "_law_lying", "_law_handed", "_law_found"]
theorem sc_law : FnScope n_law ["_law_script"] (defScope s_law) := ⟨rfl, rfl, rfl, by decide +kernel, rfl, by decide +kernel, by decide +kernel⟩
/-- where the top has put what -/
structure Ad where
  a_written : Addr
  d_written : FuncData
  a_door_row : Addr
  d_door_row : FuncData
  a_key_row : Addr
  d_key_row : FuncData
  a_l_mix : Addr
  d_l_mix : FuncData
  a_l_cell_at : Addr
  d_l_cell_at : FuncData
  a_law : Addr
  d_law : FuncData
structure Txt (K : PySem.W.Frag) (mg : PySem.Str → Option Value) (A : Ad) : Prop where
  g_written : mg "written" = some (.ref A.a_written)
  f_written : Fun K "written" "written" s_written A.a_written A.d_written
  g_door_row : mg "door_row" = some (.ref A.a_door_row)
  f_door_row : Fun K "door_row" "door_row" s_door_row A.a_door_row A.d_door_row
  g_key_row : mg "key_row" = some (.ref A.a_key_row)
  f_key_row : Fun K "key_row" "key_row" s_key_row A.a_key_row A.d_key_row
  g_l_mix : mg "_law_mix" = some (.ref A.a_l_mix)
  f_l_mix : Fun K "_law_mix" "_law_mix" s_l_mix A.a_l_mix A.d_l_mix
  g_l_cell_at : mg "_law_cell_at" = some (.ref A.a_l_cell_at)
  f_l_cell_at : Fun K "_law_cell_at" "_law_cell_at" s_l_cell_at A.a_l_cell_at A.d_l_cell_at
  g_law : mg "law" = some (.ref A.a_law)
  f_law : Fun K "law" "law" s_law A.a_law A.d_law
  u_int : mg "int" = none
  u_isinstance : mg "isinstance" = none
  u_len : mg "len" = none
  u_list : mg "list" = none
  u_range : mg "range" = none
  u_str : mg "str" = none
section
variable {P : Program} {w : World} {K : PySem.W.Frag} {mg : PySem.Str → Option Value} {base : Heap} {A : Ad}
theorem b_written (T : Txt K mg A) : Binds K A.d_written ["maze"] [] := T.f_written.binds fun _ _ _ _ _ _ us hl => match us, hl with | [_], _ => rfl
theorem b_door_row (T : Txt K mg A) : Binds K A.d_door_row ["door"] [] := T.f_door_row.binds fun _ _ _ _ _ _ us hl => match us, hl with | [_], _ => rfl
theorem b_key_row (T : Txt K mg A) : Binds K A.d_key_row ["key"] [] := T.f_key_row.binds fun _ _ _ _ _ _ us hl => match us, hl with | [_], _ => rfl
theorem b_l_mix (T : Txt K mg A) : Binds K A.d_l_mix ["_law_cell", "_law_k"] [] := T.f_l_mix.binds fun _ _ _ _ _ _ us hl => match us, hl with | [_, _], _ => rfl
theorem b_l_cell_at (T : Txt K mg A) : Binds K A.d_l_cell_at ["_law_script", "_law_k"] [] := T.f_l_cell_at.binds fun _ _ _ _ _ _ us hl => match us, hl with | [_, _], _ => rfl
theorem b_law (T : Txt K mg A) : Binds K A.d_law ["_law_script"] [] := T.f_law.binds fun _ _ _ _ _ _ us hl => match us, hl with | [_], _ => rfl
/-! a draw by a cell -/
def mix (c k : Int) : Int := ((c + 7919 * k + 1) * 48271 % 1000003) * ((c + 7919 * k + 1) * 48271 % 1000003) % 999983
theorem mix_nn (c k : Int) : 0 ≤ mix c k := Int.emod_nonneg _ (by decide)
theorem mix_lt (c k : Int) : mix c k < 999983 := Int.emod_lt_of_pos _ (by decide)
def R_mix (ds : List PyData) (d : PyData) : Prop := ∃ c k : Int, ds = [.int c, .int k] ∧ d = .int (mix c k)
theorem ok_l_mix (T : Txt K mg A) : FnOk P w K mg base CX0 1 A.a_l_mix A.d_l_mix ["_law_cell", "_law_k"] (spG K R_mix) := by
  refine T.f_l_mix.ok sc_l_mix (fun vs H Q E h => ?_) (fun cdv Ar outer s H vs Q E hr h => ?_)
  · obtain ⟨H0, ds, d, sm, dv, ⟨c, k, rfl, _⟩, _⟩ := h; exact dpa_len dv
  obtain ⟨H0, ds, d, sm, dv, ⟨c, k, rfl, rfl⟩, q⟩ := h
  refine ⟨_, (pss_cons (ps_set (i := 2) sc_l_mix.nd rfl (.inl rfl) (pe_op op_mod (pe_op op_mul (pe_op op_add (pe_op op_add (pv 0) (pe_op op_mul pe_int (pv 1))) pe_int) pe_int) pe_int))
      (pss_one (ps_ret (pe_op op_mod (pe_op op_mul (pv 2) (pv 2)) pe_int)))), ?_⟩
  refine Pf.run (X := fun _ _ _ _ => False) (oc := .rt (.int (mix c k))) sm dv rfl ?_ q
  refine sx_seq (sx_set (d := .int ((c + 7919 * k + 1) * 48271 % 1000003)) ?_) (sx_ret ?_)
  · walk_at "ev"
    decide
  · have h1 : 0 ≤ (c + 7919 * k + 1) * 48271 % 1000003 := Int.emod_nonneg _ (by decide)
    have h2 : (c + 7919 * k + 1) * 48271 % 1000003 < 1000003 := Int.emod_lt_of_pos _ (by decide)
    unfold mix
    generalize (c + 7919 * k + 1) * 48271 % 1000003 = z at h1 h2
    walk_at "ev"
    · exact cm1 ⟨by omega, by omega⟩
    · decide

/-! a cell of the script, nought beyond its end -/
def cellAt (ns : List Int) (k : Int) : Int := if k < ns.length then ns.getD k.toNat 0 else 0
def R_cell (ds : List PyData) (d : PyData) : Prop := ∃ (ns : List Int) (k : Int), 0 ≤ k ∧ ds = [.list (ns.map .int), .int k] ∧ d = .int (cellAt ns k)
theorem getD_get {ns : List Int} {i : Nat} (h : i < ns.length) : ns[i]? = some (ns.getD i 0) := by
  rw [List.getD_eq_getElem?_getD, List.getElem?_eq_getElem h]; rfl
theorem ok_l_cell_at (T : Txt K mg A) : FnOk P w K mg base CX0 1 A.a_l_cell_at A.d_l_cell_at ["_law_script", "_law_k"] (spG K R_cell) := by
  refine T.f_l_cell_at.ok sc_l_cell_at (fun vs H Q E h => ?_) (fun cdv Ar outer s H vs Q E hr h => ?_)
  · obtain ⟨H0, ds, d, sm, dv, ⟨ns, k, _, rfl, _⟩, _⟩ := h; exact dpa_len dv
  obtain ⟨H0, ds, d, sm, dv, ⟨ns, k, hk, rfl, rfl⟩, q⟩ := h
  refine ⟨_, (pss_cons (ps_if (pt_cmpR op_lt (pv 1) (pe_callB call_len_seq (by rfl) T.u_len (by decide +kernel) (pa_cons (pv 0) pa_nil)) (nomark _)) (pss_one (ps_ret (pe_ix (r := rIxL K) (by exact ix_list) (pv 0) (pv 1) (fun _ _ => rfl)))) pss_nil)
      (pss_one (ps_ret pe_int))), ?_⟩
  refine Pf.run (X := fun _ _ _ _ => False) (oc := .rt (.int (cellAt ns k))) sm dv rfl ?_ q
  have e : EvT K (tTest (tOp (rI0 fun i j => V.bl (decide (i < j))) (tVar 1) (tCB (fun xs H Q => ∃ p ys, xs = [.ref p] ∧ (SqL K H p ys ∨ SqT K H p ys) ∧ Q (.int ys.length) H) (tCons (tVar 0) tNil)))) [.dat (.list (ns.map .int)), .dat (.int k)] (decide (k < ns.length)) :=
    et_test (ev_I0 (ev_var rfl) (ev_len (ev_var rfl)) (by rw [List.length_map]; rfl))
  unfold cellAt
  by_cases c : k < ns.length
  · rw [if_pos c]
    rw [decide_eq_true c] at e
    refine sx_end (sx_yes e (sx_ret (ev_ixL (ev_var rfl) (ev_var rfl) (atI_int hk ?_)))) rfl
    rw [List.getElem?_map, getD_get (by omega)]; rfl
  · rw [if_neg c]
    rw [decide_eq_false c] at e
    exact sx_seq (sx_no e sx_next) (sx_ret (ev_c rfl))

theorem tg_maze {K : PySem.W.Frag} {env : List SV} {m : Maze} {a b c : Nat} : Tg K (gTup K 3 (gCons (gName a) (gCons (gName b) (gCons (gName c) gNil)))) env (mazeD m) (((env.set a (.dat (.int m.n))).set b (.dat (.list (m.ds.map doorD)))).set c (.dat (.list (m.ks.map keyD)))) :=
  tg_tup (tgs_cons tg_name (tgs_cons tg_name (tgs_cons tg_name tgs_nil))) rfl

/-! rows as texts; written -/
def doorS (d : Door) : Str := match d.2.2 with
  | none => catS Str.empty [Str.ofString "door ", intS d.1, Str.ofString " ", intS d.2.1]
  | some l => catS Str.empty [Str.ofString "door ", intS d.1, Str.ofString " ", intS d.2.1, Str.ofString " by ", intS l]
def keyS (k : Key2) : Str := catS Str.empty [Str.ofString "key ", intS k.2, Str.ofString " in ", intS k.1]
def firstS (n : Int) : Str := catS Str.empty [Str.ofString "rooms ", intS n]
def rowsS (m : Maze) : List Str := firstS m.n :: (m.ds.map doorS ++ m.ks.map keyS)
def nlS : Str := Str.ofString "\n"
def textF (m : Maze) : Str := Txt.join nlS (rowsS m)
def sm (i : Int) : Prop := 0 ≤ i ∧ i < 100
def smDoor (d : Door) : Prop := sm d.1 ∧ sm d.2.1 ∧ ∀ l, d.2.2 = some l → sm l
def smKey (k : Key2) : Prop := sm k.1 ∧ sm k.2
theorem intS_fin : ∀ i : Fin 100, (intS (i.val : Int)).length ≤ 2 := by decide +kernel
theorem intS_len {i : Int} (h : sm i) : (intS i).length ≤ 2 := by
  have := intS_fin ⟨i.toNat, by have := h.2; have := h.1; omega⟩
  have e : ((i.toNat : Nat) : Int) = i := Int.toNat_of_nonneg h.1
  rw [← e]; exact this
theorem sm_log {i : Int} (h : sm i) : i.natAbs.log2 < 1920 := by
  have := Nat.log2_le_self i.natAbs
  have h1 := h.1
  have h2 := h.2
  omega
theorem s5 : (Str.ofString "door ").length = 5 ∧ (Str.ofString " ").length = 1 ∧ (Str.ofString " by ").length = 4 ∧ (Str.ofString "key ").length = 4 ∧ (Str.ofString " in ").length = 4 ∧ (Str.ofString "rooms ").length = 6 ∧ nlS.length = 1 := by decide +kernel
theorem emp_len : Str.empty.length = 0 := rfl
theorem catS_len4 (a b c d : Str) : (catS Str.empty [a, b, c, d]).length = a.length + b.length + c.length + d.length := by
  show (Str.empty ++ a ++ b ++ c ++ d).length = _
  rw [len_app, len_app, len_app, len_app, emp_len]; omega
theorem catS_len2 (a b : Str) : (catS Str.empty [a, b]).length = a.length + b.length := by
  show (Str.empty ++ a ++ b).length = _
  rw [len_app, len_app, emp_len]; omega
theorem catS_len6 (a b c d e f : Str) : (catS Str.empty [a, b, c, d, e, f]).length = a.length + b.length + c.length + d.length + e.length + f.length := by
  show (Str.empty ++ a ++ b ++ c ++ d ++ e ++ f).length = _
  rw [len_app, len_app, len_app, len_app, len_app, len_app, emp_len]; omega
theorem doorS_len {d : Door} (h : smDoor d) : (doorS d).length ≤ 20 := by
  have h1 := intS_len h.1
  have h2 := intS_len h.2.1
  obtain ⟨s1, s2, s3, s4, s5, s6, _⟩ := s5
  unfold doorS
  cases e : d.2.2 with
  | none => show (catS Str.empty _).length ≤ 20; rw [catS_len4]; omega
  | some l =>
    have h3 := intS_len (h.2.2 l e)
    show (catS Str.empty _).length ≤ 20
    rw [catS_len6]; omega
theorem keyS_len {k : Key2} (h : smKey k) : (keyS k).length ≤ 20 := by
  have h1 := intS_len h.1
  have h2 := intS_len h.2
  obtain ⟨s1, s2, s3, s4, s5, s6, _⟩ := s5
  unfold keyS
  rw [catS_len4]; omega
theorem firstS_len {n : Int} (h : sm n) : (firstS n).length ≤ 20 := by
  have h1 := intS_len h
  obtain ⟨s1, s2, s3, s4, s5, s6, _⟩ := s5
  unfold firstS
  rw [catS_len2]; omega
theorem ev_fmtS {K : PySem.W.Frag} {te : TE} {env : List SV} {n : Int} (h : Ev K te env (.int n)) (s : sm n) : Ev K (tFmt te) env (.str (intS n)) := ev_fmtI h (sm_log s)
def R_door_row (ds : List PyData) (d : PyData) : Prop := ∃ x : Door, smDoor x ∧ ds = [doorD x] ∧ d = .str (doorS x)
theorem ok_door_row (T : Txt K mg A) : FnOk P w K mg base CX0 1 A.a_door_row A.d_door_row ["door"] (spG K R_door_row) := by
  refine T.f_door_row.ok sc_door_row (fun vs H Q E h => ?_) (fun cdv Ar outer s H vs Q E hr h => ?_)
  · obtain ⟨H0, ds, d, sm, dv, ⟨x, _, rfl, _⟩, _⟩ := h; exact dpa_len dv
  obtain ⟨H0, ds, d, sm, dv, ⟨x, hx, rfl, rfl⟩, q⟩ := h
  refine ⟨_, (pss_cons (ps_asg (pv 0) (pg_tup rfl (pgs_cons (pg_name (i := 1) sc_door_row.nd rfl (Or.inl rfl)) (pgs_cons (pg_name (i := 2) sc_door_row.nd rfl (Or.inl rfl)) (pgs_cons (pg_name (i := 3) sc_door_row.nd rfl (Or.inl rfl)) pgs_nil)))))
      (pss_cons (ps_if (pt_cmpR op_isN (pv 3) pe_non (nomark _)) (pss_one (ps_ret (pe_joined (.cons pe_str (.cons (pe_fmt (pv 1)) (.cons pe_str (.cons (pe_fmt (pv 2)) .nil))))))) pss_nil)
      (pss_one (ps_ret (pe_joined (.cons pe_str (.cons (pe_fmt (pv 1)) (.cons pe_str (.cons (pe_fmt (pv 2)) (.cons pe_str (.cons (pe_fmt (pv 3)) .nil))))))))))), ?_⟩
  refine Pf.run (X := fun _ _ _ _ => False) (oc := .rt (.str (doorS x))) sm dv rfl ?_ q
  have hl := doorS_len hx
  refine sx_seq (sx_asg (d := .tuple [.int x.1, .int x.2.1, optD x.2.2]) (ev_var rfl) (tg_tup (tgs_cons tg_name (tgs_cons tg_name (tgs_cons tg_name tgs_nil))) rfl)) ?_
  unfold doorS at hl ⊢
  cases e : x.2.2 with
  | none =>
    rw [e] at hl
    refine sx_end (sx_yes (et_test (ev_isN (d := .none) (ev_var rfl))) (sx_ret (ev_js (.cons (ev_c rfl) (.cons (ev_fmtS (ev_var rfl) hx.1) (.cons (ev_c rfl) (.cons (ev_fmtS (ev_var rfl) hx.2.1) .nil)))) (Nat.le_trans hl (by decide))))) rfl
  | some l =>
    rw [e] at hl
    refine sx_seq (sx_no (et_test (ev_isN (d := .int l) (ev_var rfl))) sx_next) (sx_ret (ev_js (.cons (ev_c rfl) (.cons (ev_fmtS (ev_var rfl) hx.1) (.cons (ev_c rfl) (.cons (ev_fmtS (ev_var rfl) hx.2.1) (.cons (ev_c rfl) (.cons (ev_fmtS (n := l) (ev_var rfl) (hx.2.2 l e)) .nil)))))) (Nat.le_trans hl (by decide))))
def R_key_row (ds : List PyData) (d : PyData) : Prop := ∃ x : Key2, smKey x ∧ ds = [keyD x] ∧ d = .str (keyS x)
theorem ok_key_row (T : Txt K mg A) : FnOk P w K mg base CX0 1 A.a_key_row A.d_key_row ["key"] (spG K R_key_row) := by
  refine T.f_key_row.ok sc_key_row (fun vs H Q E h => ?_) (fun cdv Ar outer s H vs Q E hr h => ?_)
  · obtain ⟨H0, ds, d, sm, dv, ⟨x, _, rfl, _⟩, _⟩ := h; exact dpa_len dv
  obtain ⟨H0, ds, d, sm, dv, ⟨x, hx, rfl, rfl⟩, q⟩ := h
  refine ⟨_, (pss_cons (ps_asg (pv 0) (pg_tup rfl (pgs_cons (pg_name (i := 1) sc_key_row.nd rfl (Or.inl rfl)) (pgs_cons (pg_name (i := 2) sc_key_row.nd rfl (Or.inl rfl)) pgs_nil))))
      (pss_one (ps_ret (pe_joined (.cons pe_str (.cons (pe_fmt (pv 2)) (.cons pe_str (.cons (pe_fmt (pv 1)) .nil)))))))), ?_⟩
  refine Pf.run (X := fun _ _ _ _ => False) (oc := .rt (.str (keyS x))) sm dv rfl ?_ q
  have hl := keyS_len hx
  refine sx_seq (sx_asg (d := .tuple [.int x.1, .int x.2]) (ev_var rfl) (tg_tup (tgs_cons tg_name (tgs_cons tg_name tgs_nil)) rfl)) ?_
  exact sx_ret (ev_js (.cons (ev_c rfl) (.cons (ev_fmtS (ev_var rfl) hx.2) (.cons (ev_c rfl) (.cons (ev_fmtS (ev_var rfl) hx.1) .nil)))) (Nat.le_trans hl (by decide)))
def smMaze (m : Maze) : Prop := sm m.n ∧ (m.ds.length ≤ 90 ∧ ∀ d ∈ m.ds, smDoor d) ∧ (m.ks.length ≤ 60 ∧ ∀ k ∈ m.ks, smKey k)
theorem all_comp {α : Type} {xs : List α} {w : α → PyData} : ((xs.filter fun _ => true).map w) = xs.map w := by
  rw [List.filter_eq_self.mpr fun _ _ => rfl]
theorem sum_le {B : Nat} : ∀ {l : List Str}, (∀ x ∈ l, x.length ≤ B) → (l.map (·.length)).sum ≤ B * l.length
  | [], _ => Nat.le_refl _
  | x :: t, h => by
    have h1 := h x List.mem_cons_self
    have h2 := sum_le (l := t) fun y hy => h y (List.mem_cons_of_mem _ hy)
    rw [List.map_cons, List.sum_cons, List.length_cons, Nat.mul_succ]; omega
theorem rowsS_len {m : Maze} (h : smMaze m) : (rowsS m).length ≤ 151 ∧ ∀ x ∈ rowsS m, x.length ≤ 20 := by
  unfold rowsS
  refine ⟨?_, fun x hx => ?_⟩
  · rw [List.length_cons, List.length_append, List.length_map, List.length_map]
    have := h.2.1.1; have := h.2.2.1; omega
  · rcases List.mem_cons.mp hx with z | z
    · rw [z]; exact firstS_len h.1
    · rcases List.mem_append.mp z with z | z
      · obtain ⟨d, hd, rfl⟩ := List.mem_map.mp z; exact doorS_len (h.2.1.2 d hd)
      · obtain ⟨k, hk, rfl⟩ := List.mem_map.mp z; exact keyS_len (h.2.2.2 k hk)
def R_written (ds : List PyData) (d : PyData) : Prop := ∃ m : Maze, smMaze m ∧ ds = [mazeD m] ∧ d = .str (textF m)
theorem ok_written (T : Txt K mg A) : FnOk P w K mg base CX0 2 A.a_written A.d_written ["maze"] (spG K R_written) := by
  refine T.f_written.ok sc_written (fun vs H Q E h => ?_) (fun cdv Ar outer s H vs Q E hr h => ?_)
  · obtain ⟨H0, ds, d, sm, dv, ⟨x, _, rfl, _⟩, _⟩ := h; exact dpa_len dv
  obtain ⟨H0, ds, d, sm, dv, ⟨m, hm, rfl, rfl⟩, q⟩ := h
  refine ⟨_, (pss_cons (ps_asg (pv 0) (pg_tup rfl (pgs_cons (pg_name (i := 1) sc_written.nd rfl (Or.inl rfl)) (pgs_cons (pg_name (i := 2) sc_written.nd rfl (Or.inl rfl)) (pgs_cons (pg_name (i := 3) sc_written.nd rfl (Or.inl rfl)) pgs_nil)))))
      (pss_cons (ps_set (i := 4) sc_written.nd rfl (.inl rfl) (pe_lst (pa_cons (pe_joined (.cons pe_str (.cons (pe_fmt (pv 1)) .nil))) pa_nil)))
      (pss_cons (ps_expr (pe_bm PySem.F.plainAttrs_list PySem.F.slot_list_extend PySem.F.type_list_extend mt_extend (pv 4) (pa_cons (pe_lc (own := [("door", 5)]) (g := gName 5) rfl sc_written.nd (pi_list (pv 2)) (blkOk_by (own := [("door", 5)]) (N := n_written) (sc := defScope s_written) (by decide +kernel))
        (fun _ _ _ _ _ => (pg_name (i := 5) sc_written.nd rfl (Or.inl rfl))) (fun _ _ _ _ _ => pts_nil) (fun _ _ _ _ _ => (pe_callS (E := fun _ => E0) (ok_door_row T) (hr.mono (by decide)) rfl T.g_door_row T.f_door_row.kp (b_door_row T) (fun σ => pass0S) (pa_cons (pv 5) pa_nil)))) pa_nil)))
      (pss_cons (ps_expr (pe_bm PySem.F.plainAttrs_list PySem.F.slot_list_extend PySem.F.type_list_extend mt_extend (pv 4) (pa_cons (pe_lc (own := [("key", 6)]) (g := gName 6) rfl sc_written.nd (pi_list (pv 3)) (blkOk_by (own := [("key", 6)]) (N := n_written) (sc := defScope s_written) (by decide +kernel))
        (fun _ _ _ _ _ => (pg_name (i := 6) sc_written.nd rfl (Or.inl rfl))) (fun _ _ _ _ _ => pts_nil) (fun _ _ _ _ _ => (pe_callS (E := fun _ => E0) (ok_key_row T) (hr.mono (by decide)) rfl T.g_key_row T.f_key_row.kp (b_key_row T) (fun σ => pass0S) (pa_cons (pv 6) pa_nil)))) pa_nil)))
      (pss_one (ps_ret (pe_m1 (r := rJoin K) PySem.F.slot_str_join PySem.F.type_str_join (by exact mt_joinK) pe_str (pv 4)))))))), ?_⟩
  refine Pf.run (X := fun _ _ _ _ => False) (oc := .rt (.str (textF m))) sm dv rfl ?_ q
  have hl := rowsS_len hm
  have hd := hm.2.1.1
  have hk := hm.2.2.1
  refine sx_seq (sx_asg (ev_var rfl) tg_maze) ?_
  refine sx_seq (sx_setO (eo_lst (ds := [.str (firstS m.n)]) (ea_cons (ev_js (.cons (ev_c rfl) (.cons (ev_fmtS (ev_var rfl) hm.1) .nil)) (Nat.le_trans (firstS_len hm.1) (by decide))) ea_nil) (Nat.le_of_ble_eq_true rfl))) ?_
  refine sx_seq (sx_ext (ys := (m.ds.map doorS).map .str) rfl ((eo_lcL m.ds doorD (fun _ => true) (fun d => .str (doorS d)) (ev_var rfl) (by omega) fun x hx => ⟨_, tgw_name (by decide), et_yes, fun _ => ev_call (ea_cons (ev_var rfl) ea_nil) ⟨x, hm.2.1.2 x hx, rfl, rfl⟩⟩).is (by rw [all_comp, List.map_map]; rfl)) (by rw [List.length_map, List.length_map]; show 1 + m.ds.length ≤ _; omega)) ?_
  refine sx_seq (sx_ext (ys := (m.ks.map keyS).map .str) rfl ((eo_lcL m.ks keyD (fun _ => true) (fun d => .str (keyS d)) (ev_var rfl) (by omega) fun x hx => ⟨_, tgw_name (by decide), et_yes, fun _ => ev_call (ea_cons (ev_var rfl) ea_nil) ⟨x, hm.2.2.2 x hx, rfl, rfl⟩⟩).is (by rw [all_comp, List.map_map]; rfl)) (by rw [List.length_append, List.length_map, List.length_map, List.length_map, List.length_map]; show 1 + m.ds.length + m.ks.length ≤ _; omega)) ?_
  refine sx_ret (ev_join (s := nlS) (ns := rowsS m) (ev_c rfl) (EvL.is (xs := [PyData.str (firstS m.n)] ++ (m.ds.map doorS).map PyData.str ++ (m.ks.map keyS).map PyData.str) (el_var rfl) ?_) ?_)
  · show [PyData.str (firstS m.n)] ++ (m.ds.map doorS).map PyData.str ++ (m.ks.map keyS).map PyData.str = (firstS m.n :: (m.ds.map doorS ++ m.ks.map keyS)).map PyData.str
    rw [List.map_cons, List.map_append]; rfl
  · have := sum_le hl.2
    have e : nlS.length = 1 := s5.2.2.2.2.2.2
    rw [e]
    have h1 := hl.1
    omega

/-! the law: the text by its rows -/
def spLaw (K : PySem.W.Frag) : Sp := fun vs H Q _ => ∃ (a : Addr) (ns : List Int), vs = [.ref a] ∧ SqL K H a (ns.map V.int) ∧ ns.length ≤ 63 ∧ ∀ H', Q (.bl true) H'
theorem sh_key {k : Key2} : Sh 1 (keyD k) := sh2 sh_int sh_int
theorem sh_door (d : Door) : Sh 1 (doorD d) := sh3 sh_int sh_int (by cases d.2.2 <;> first | exact sh_none | exact sh_int)
theorem sh_maze (m : Maze) : Sh 3 (mazeD m) := sh3 sh_int (sh_lst (sh_map fun d _ => sh_door d)) (sh_lst (sh_map fun _ _ => sh_key))
theorem at6 {i : Int} (h : 0 ≤ i) (h1 : i < 6) : atI [PyData.int 0, .int 1, .int 2, .int 3, .int 4, .none] i = some (optD ([some 0, some 1, some 2, some 3, some 4, none].getD i.toNat none)) :=
  atI_map (f := optD) (l := [some 0, some 1, some 2, some 3, some 4, none]) none h h1
def lock6 (i : Int) : Option Int := if i < 5 then some i else none
theorem lock6_is {i : Int} (h : 0 ≤ i) (h1 : i < 6) : [some 0, some 1, some 2, some 3, some 4, none].getD i.toNat none = lock6 i := by
  have : i = 0 ∨ i = 1 ∨ i = 2 ∨ i = 3 ∨ i = 4 ∨ i = 5 := by omega
  rcases this with rfl | rfl | rfl | rfl | rfl | rfl <;> rfl
section
variable (n a b c : Int)
/-- the i-th door, the i-th key -/
def doorI (i : Nat) : Door := ((i : Int) * a % n, (i : Int) * c % n, lock6 (((i : Int) + b / 91) % 6))
def keyI (i : Nat) : Key2 := ((i : Int) * b % n, ((i : Int) + a) % 5)
def doorsI (k : Nat) : List Door := (List.range k).map (doorI n a b c)
def keysI (k : Nat) : List Key2 := (List.range k).map (keyI n a b)
end
theorem range_next {α : Type} (f : Nat → α) (k : Nat) : (List.range (k + 1)).map f = (List.range k).map f ++ [f k] := by
  rw [List.range_succ, List.map_append]; rfl
/-- the text behind some doors and keys -/
def dueS (n : Int) (ds : List Door) (ks : List Key2) : Str := Txt.join nlS (rowsS ⟨n, ds, ks⟩)
theorem join_len (s : Str) : ∀ (r : List Str) (acc : Array Nat), (r.foldl (fun (acc : Array Nat) (p : Str) => acc ++ s.cps ++ p.cps) acc).size = acc.size + (r.map (·.length)).sum + r.length * s.length
  | [], acc => by simp
  | y :: t, acc => by
    rw [List.foldl_cons, join_len s t, Array.size_append, Array.size_append, List.map_cons, List.sum_cons, List.length_cons, Nat.add_mul]
    show acc.size + s.length + y.length + _ + _ = _
    omega
theorem dueS_len {n : Int} {ds : List Door} {ks : List Key2} (h : smMaze ⟨n, ds, ks⟩) : (dueS n ds ks).length ≤ 6000 := by
  have hl := rowsS_len h
  have e : nlS.length = 1 := s5.2.2.2.2.2.2
  show (⟨_⟩ : Str).length ≤ 6000
  have h1 := join_len nlS (ds.map doorS ++ ks.map keyS) (firstS n).cps
  have h2 := sum_le (l := ds.map doorS ++ ks.map keyS) (B := 20) fun x hx => hl.2 x (List.mem_cons_of_mem _ hx)
  have h3 := firstS_len h.1
  have h4 : (ds.map doorS ++ ks.map keyS).length ≤ 150 := by
    have : (ds.map doorS ++ ks.map keyS).length + 1 ≤ 151 := hl.1
    omega
  have h5 : (dueS n ds ks).length = (firstS n).cps.size + ((ds.map doorS ++ ks.map keyS).map (·.length)).sum + (ds.map doorS ++ ks.map keyS).length * nlS.length := h1
  have h6 : (firstS n).cps.size ≤ 20 := h3
  rw [e, Nat.mul_one] at h5
  have h7 : (dueS n ds ks).length ≤ 6000 := by
    rw [h5]
    generalize (ds.map doorS ++ ks.map keyS).length = z at h2 h4
    omega
  exact h7
theorem due_door (n : Int) (ds : List Door) (d : Door) : dueS n (ds ++ [d]) [] = dueS n ds [] ++ nlS ++ doorS d := by
  unfold dueS rowsS
  show Txt.join nlS (firstS n :: ((ds ++ [d]).map doorS ++ [])) = _
  rw [List.append_nil, List.map_append]
  show Txt.join nlS ((firstS n :: ds.map doorS) ++ [doorS d]) = Txt.join nlS (firstS n :: (ds.map doorS ++ [])) ++ nlS ++ doorS d
  rw [join_snoc _ _ _ (List.cons_ne_nil _ _), List.append_nil]
theorem due_key (n : Int) (ds : List Door) (ks : List Key2) (k : Key2) : dueS n ds (ks ++ [k]) = dueS n ds ks ++ nlS ++ keyS k := by
  unfold dueS rowsS
  show Txt.join nlS (firstS n :: (ds.map doorS ++ (ks ++ [k]).map keyS)) = _
  rw [List.map_append, ← List.append_assoc]
  show Txt.join nlS ((firstS n :: (ds.map doorS ++ ks.map keyS)) ++ [keyS k]) = _
  rw [join_snoc _ _ _ (List.cons_ne_nil _ _)]
theorem nlkey : Str.ofString "\nkey " = nlS ++ Str.ofString "key " := by decide +kernel

theorem tail_some (p i s j t l : Str) : catS Str.empty [p, i, s, j] ++ catS Str.empty [t, l] = catS Str.empty [p, i, s, j, t, l] := by
  show catS Str.empty [p, i, s, j] ++ (Str.empty ++ t ++ l) = catS Str.empty [p, i, s, j] ++ t ++ l
  rw [empty_app, ← app_assoc]
theorem tail_none (x : Str) : x ++ Str.ofString "" = x := by
  have e : Str.ofString "" = Str.empty := by decide +kernel
  rw [e, app_empty]
theorem key_line (due a b : Str) : due ++ Str.ofString "\nkey " ++ a ++ Str.ofString " in " ++ b = due ++ nlS ++ catS Str.empty [Str.ofString "key ", a, Str.ofString " in ", b] := by
  show _ = due ++ nlS ++ (Str.empty ++ Str.ofString "key " ++ a ++ Str.ofString " in " ++ b)
  rw [nlkey, empty_app]
  rw [app_assoc, app_assoc, app_assoc, app_assoc, app_assoc, app_assoc, app_assoc]
theorem sm_mod {n : Int} (h : 1 ≤ n ∧ n ≤ 60) (i : Int) : sm (i % n) := ⟨Int.emod_nonneg _ (by omega), by have := Int.emod_lt_of_pos i (b := n) (by omega); omega⟩
theorem lock6_sm {i l : Int} (h : 0 ≤ i) (e : lock6 i = some l) : sm l := by
  unfold lock6 at e
  split at e
  · cases e; exact ⟨h, by omega⟩
  · cases e
theorem mazeI {n : Int} (hn : 1 ≤ n ∧ n ≤ 60) (a b c : Int) {i j : Nat} (hi : i ≤ 90) (hj : j ≤ 60) : smMaze ⟨n, doorsI n a b c i, keysI n a b j⟩ := by
  refine ⟨⟨by show 0 ≤ n; omega, by show n < 100; omega⟩, ⟨?_, fun d hd => ?_⟩, ?_, fun k hk => ?_⟩
  · show (doorsI n a b c i).length ≤ 90
    unfold doorsI; rw [List.length_map, List.length_range]; exact hi
  · obtain ⟨t, _, rfl⟩ := List.mem_map.mp hd
    exact ⟨sm_mod hn _, sm_mod hn _, fun l e => lock6_sm (Int.emod_nonneg _ (by decide)) e⟩
  · show (keysI n a b j).length ≤ 60
    unfold keysI; rw [List.length_map, List.length_range]; exact hj
  · obtain ⟨t, _, rfl⟩ := List.mem_map.mp hk
    refine ⟨sm_mod hn _, Int.emod_nonneg _ (by decide), ?_⟩
    have := Int.emod_lt_of_pos ((t : Int) + a) (b := 5) (by decide)
    show ((t : Int) + a) % 5 < 100
    omega
theorem ok_law (T : Txt K mg A) : FnOk P w K mg base CX0 3 A.a_law A.d_law ["_law_script"] (spLaw K) := by
  refine T.f_law.ok sc_law (fun vs H Q E h => ?_) (fun cdv Ar outer s H vs Q E hr h => ?_)
  · obtain ⟨a, ns, rfl, _⟩ := h; rfl
  obtain ⟨a, ns, rfl, hS, hlen, q⟩ := h
  have dv : DpAll K H [.ref a] [.list (ns.map .int)] := .cons (.lst hS (dpa_of_ints ns)) .nil
  refine ⟨_, (pss_cons (ps_set (i := 1) sc_law.nd rfl (.inl rfl) (pe_op op_add pe_int (pe_op op_mod (pe_callS (E := fun _ => E0) (ok_l_cell_at T) (hr.mono (by decide)) rfl T.g_l_cell_at T.f_l_cell_at.kp (b_l_cell_at T) (fun σ => pass0S) (pa_cons (pv 0) (pa_cons pe_int pa_nil))) pe_int)))
      (pss_cons (ps_setLc (i := 2) (own := [("_law_k", 3)]) (g := gName 3) rfl sc_law.nd rfl rfl (sw_true rfl rfl rfl (by decide +kernel)) (pi_range1 rfl T.u_range (pa_cons pe_int pa_nil)) (blkOk_by (own := [("_law_k", 3)]) (N := n_law) (sc := defScope s_law) (by decide +kernel))
        (fun _ _ _ _ _ => (pg_name (i := 3) sc_law.nd rfl (Or.inl rfl))) (fun _ _ _ _ _ => pts_nil) (fun _ _ _ _ _ => (pe_callS (E := fun _ => E0) (ok_l_mix T) (hr.mono (by decide)) rfl T.g_l_mix T.f_l_mix.kp (b_l_mix T) (fun σ => pass0S) (pa_cons (pe_callS (E := fun _ => E0) (ok_l_cell_at T) (hr.mono (by decide)) rfl T.g_l_cell_at T.f_l_cell_at.kp (b_l_cell_at T) (fun σ => pass0S) (pa_cons (pv 0) (pa_cons (pv 3) pa_nil))) (pa_cons pe_int pa_nil)))))
      (pss_cons (ps_set (i := 4) sc_law.nd rfl (.inl rfl) (pe_lst pa_nil))
      (pss_cons (ps_set (i := 5) sc_law.nd rfl (.inl rfl) (pe_op op_add_str pe_str (pe_callTy call_str_int (by rfl) T.u_str (by decide +kernel) (pa_cons (pv 1) pa_nil))))
      (pss_cons (ps_for PassesOwn.never rfl (pi_range1 rfl T.u_range (pa_cons (pe_op op_mod (pe_ix (r := rIxL K) (by exact ix_list) (pv 2) pe_int (fun _ _ => rfl)) pe_int) pa_nil)) (pg_name (i := 3) sc_law.nd rfl (Or.inl rfl))
        (pss_cons (ps_set (i := 6) sc_law.nd rfl (.inl rfl) (pe_op op_mod (pe_op op_mul (pv 3) (pe_ix (r := rIxL K) (by exact ix_list) (pv 2) pe_int (fun _ _ => rfl))) (pv 1)))
      (pss_cons (ps_set (i := 7) sc_law.nd rfl (.inl rfl) (pe_op op_mod (pe_op op_mul (pv 3) (pe_ix (r := rIxL K) (by exact ix_list) (pv 2) pe_int (fun _ _ => rfl))) (pv 1)))
      (pss_cons (ps_set (i := 8) sc_law.nd rfl (.inl rfl) (pe_op op_mod (pe_op op_add (pv 3) (pe_op op_fdiv (pe_ix (r := rIxL K) (by exact ix_list) (pv 2) pe_int (fun _ _ => rfl)) pe_int)) pe_int))
      (pss_cons (ps_expr (pe_bm PySem.F.plainAttrs_list PySem.F.slot_list_append PySem.F.type_list_append mt_append (pv 4) (pa_cons (pe_tup (pa_cons (pv 6) (pa_cons (pv 7) (pa_cons (pe_ix (r := rIxL K) (by exact ix_list) (pe_lst (pa_cons pe_int (pa_cons pe_int (pa_cons pe_int (pa_cons pe_int (pa_cons pe_int (pa_cons pe_non pa_nil))))))) (pv 8) (fun _ _ => rfl)) pa_nil)))) pa_nil)))
      (pss_one (ps_set (i := 5) sc_law.nd rfl (.inl rfl) (pe_op op_add_str (pe_op op_add_str (pe_op op_add_str (pv 5) pe_str) (pe_joined (.cons pe_str (.cons (pe_fmt (pv 6)) (.cons pe_str (.cons (pe_fmt (pv 7)) .nil)))))) (pe_ix (r := rIxL K) (by exact ix_list) (pe_lst (pa_cons pe_str (pa_cons (pe_joined (.cons pe_str (.cons (pe_fmt (pv 8)) .nil))) pa_nil))) (pe_callTy call_int1 (by rfl) T.u_int (by decide +kernel) (pa_cons (pe_cmpR op_lt (pv 8) pe_int (nomark _)) pa_nil)) (fun _ _ => rfl))))))))))
      (pss_cons (ps_set (i := 9) sc_law.nd rfl (.inl rfl) (pe_lst pa_nil))
      (pss_cons (ps_for PassesOwn.never rfl (pi_range1 rfl T.u_range (pa_cons (pe_op op_mod (pe_ix (r := rIxL K) (by exact ix_list) (pv 2) pe_int (fun _ _ => rfl)) pe_int) pa_nil)) (pg_name (i := 3) sc_law.nd rfl (Or.inl rfl))
        (pss_cons (ps_expr (pe_bm PySem.F.plainAttrs_list PySem.F.slot_list_append PySem.F.type_list_append mt_append (pv 9) (pa_cons (pe_tup (pa_cons (pe_op op_mod (pe_op op_mul (pv 3) (pe_ix (r := rIxL K) (by exact ix_list) (pv 2) pe_int (fun _ _ => rfl))) (pv 1)) (pa_cons (pe_op op_mod (pe_op op_add (pv 3) (pe_ix (r := rIxL K) (by exact ix_list) (pv 2) pe_int (fun _ _ => rfl))) pe_int) pa_nil))) pa_nil)))
      (pss_one (ps_set (i := 5) sc_law.nd rfl (.inl rfl) (pe_op op_add_str (pe_op op_add_str (pe_op op_add_str (pe_op op_add_str (pv 5) pe_str) (pe_callTy call_str_int (by rfl) T.u_str (by decide +kernel) (pa_cons (pe_ix (r := rIxT K) (by exact ix_tup) (pe_ix (r := rIxL K) (by exact ix_list) (pv 9) (pv 3) (fun _ _ => rfl)) pe_int (fun _ _ => rfl)) pa_nil))) pe_str) (pe_callTy call_str_int (by rfl) T.u_str (by decide +kernel) (pa_cons (pe_ix (r := rIxT K) (by exact ix_tup) (pe_ix (r := rIxL K) (by exact ix_list) (pv 9) (pv 3) (fun _ _ => rfl)) pe_int (fun _ _ => rfl)) pa_nil)))))))
      (pss_cons (ps_set (i := 10) sc_law.nd rfl (.inl rfl) (pe_tup (pa_cons (pv 1) (pa_cons (pe_callTy call_list_of (by rfl) T.u_list (by decide +kernel) (pa_cons (pv 4) pa_nil)) (pa_cons (pe_callTy call_list_of (by rfl) T.u_list (by decide +kernel) (pa_cons (pv 9) pa_nil)) pa_nil)))))
      (pss_cons (ps_set (i := 11) sc_law.nd rfl (.inl rfl) (pe_callS (E := fun _ => E0) (ok_written T) (hr.mono (by decide)) rfl T.g_written T.f_written.kp (b_written T) (fun σ => pass0S) (pa_cons (pv 10) pa_nil)))
      (pss_one (ps_ret (pe_and (pe_callB (r := rIsi K) (by exact call_isi) (by rfl) T.u_isinstance (by decide +kernel) (pa_cons (pv 11) (pa_cons (pe_bltn (v := .ty "str") (by rfl) T.u_str (by decide +kernel) rfl) pa_nil))) (pe_and (pe_cmpR op_eq (pv 11) (pv 5) (nomark _)) (pe_one (pe_cmpR (r := rEqD K) (by exact (op_eqD hr.units)) (pv 10) (pe_tup (pa_cons (pv 1) (pa_cons (pv 4) (pa_cons (pv 9) pa_nil)))) (nomark _)))))))))))))))), ?_⟩
  refine Pf.run (X := fun _ _ _ _ => False) (oc := .rt (.bool true)) (Same.refl H) dv rfl ?_ (fun v G H2 f d => by cases d; exact q H2)
  have cell : ∀ {env : List SV} {te : TE} {k : Int}, 0 ≤ k → env[0]? = some (.dat (.list (ns.map .int))) → Ev K te env (.int k) → Ev K (tCallS (spG K R_cell) (fun _ => E0) (tCons (tVar 0) (tCons te tNil))) env (.int (cellAt ns k)) := fun h0 h1 h2 => ev_call (ea_cons (ev_var h1) (ea_cons h2 ea_nil)) ⟨ns, _, h0, rfl, rfl⟩
  refine sx_seq (sx_set (d := .int (1 + cellAt ns 0 % 60)) (ev_I0 (ev_c rfl) (ev_I (cell (by decide) rfl (ev_c rfl)) (ev_c rfl) (by decide) rfl) rfl)) ?_
  have hn : 1 ≤ 1 + cellAt ns 0 % 60 ∧ 1 + cellAt ns 0 % 60 ≤ 60 := by omega
  generalize 1 + cellAt ns 0 % 60 = n at hn
  have n0 : 0 < n := by omega
  refine sx_seq (sx_setO (EvO.is (eo_lcR (n := 3) (fun _ => true) (fun (k : Nat) => .int (mix (cellAt ns (k : Int)) 0)) (ea_cons (ev_c rfl) ea_nil) (by decide) rfl fun k hk => ⟨_, tgw_name (by decide), et_yes, fun _ => ev_call (ea_cons (cell (Int.natCast_nonneg k) rfl (ev_var rfl)) (ea_cons (ev_c rfl) ea_nil)) ⟨_, _, rfl, rfl⟩⟩) (ys := [.int (mix (cellAt ns ((0 : Nat) : Int)) 0), .int (mix (cellAt ns ((1 : Nat) : Int)) 0), .int (mix (cellAt ns ((2 : Nat) : Int)) 0)]) rfl)) ?_
  refine sx_fix 2 rfl ?_
  have ha := mix_nn (cellAt ns ((0 : Nat) : Int)) 0
  have hb := mix_nn (cellAt ns ((1 : Nat) : Int)) 0
  have hc := mix_nn (cellAt ns ((2 : Nat) : Int)) 0
  have hb' := mix_lt (cellAt ns ((1 : Nat) : Int)) 0
  generalize mix (cellAt ns ((0 : Nat) : Int)) 0 = a at ha
  generalize mix (cellAt ns ((1 : Nat) : Int)) 0 = b at hb hb'
  generalize mix (cellAt ns ((2 : Nat) : Int)) 0 = c at hc
  have more : ∀ {env : List SV} {j : Int} {x : Int}, env[2]? = some (.dat (.list [.int a, .int b, .int c])) → atI [PyData.int a, .int b, .int c] j = some (.int x) → Ev K (tOp (rIxL K) (tVar 2) (tC (.int j))) env (.int x) := fun h1 h2 => ev_ixL (ev_var h1) (ev_c rfl) h2
  have smn : sm n := ⟨by omega, by omega⟩
  refine sx_seq (sx_setO (eo_lst ea_nil (by decide))) ?_
  have e1 : Str.ofString "rooms " ++ intS n = dueS n (doorsI n a b c 0) [] := by
    show _ = Str.empty ++ Str.ofString "rooms " ++ intS n
    rw [empty_app]
  obtain ⟨s1, s2, s3, s4, s5', s6, s7⟩ := s5
  have ln := intS_len smn
  refine sx_seq (sx_set (d := .str (dueS n (doorsI n a b c 0) [])) ((ev_addS (ev_c rfl) (ev_strI (ev_var rfl) (sm_log smn)) (by rw [s6]; omega)).is (by rw [← e1]))) ?_
  -- the doors
  have hkd : (b % 91).toNat ≤ 90 := by omega
  refine sx_seq (sx_forR1 (n := (b % 91).toNat) (ea_cons (ev_I (more rfl rfl) (ev_c rfl) (by decide) rfl) ea_nil) (by omega) rfl (fun i => [.dat (.list (ns.map .int)), .dat (.int n), .dat (.list [.int a, .int b, .int c]), .no, .own ((doorsI n a b c i).map doorD), .dat (.str (dueS n (doorsI n a b c i) [])), .no, .no, .no, .no, .no, .no]) rfl fun i hi => ?_) ?_
  · refine ⟨_, tg_name, ?_⟩
    try dsimp only
    have eD : doorsI n a b c (i + 1) = doorsI n a b c i ++ [doorI n a b c i] := range_next _ _
    have hl := dueS_len (mazeI hn a b c (i := i) (j := 0) (by omega) (by omega))
    have hd := (mazeI hn a b c (i := i + 1) (j := 0) (by omega) (by omega)).2.1.2 (doorI n a b c i) (by show _ ∈ doorsI n a b c (i + 1); rw [eD]; exact List.mem_append.mpr (.inr (List.mem_singleton.mpr rfl)))
    have sz : ((doorsI n a b c i).map doorD).length < 100000 := by
      rw [List.length_map]; unfold doorsI; rw [List.length_map, List.length_range]; omega
    have hl' : (dueS n (doorsI n a b c i) []).length ≤ 6000 := hl
    rw [eD, due_door, List.map_append]
    generalize dueS n (doorsI n a b c i) [] = Z at hl'
    generalize doorsI n a b c i = Y at sz
    have q0 : 0 ≤ ((i : Int) + b / 91) % 6 := Int.emod_nonneg _ (by decide)
    have q1 : ((i : Int) + b / 91) % 6 < 6 := Int.emod_lt_of_pos _ (by decide)
    have smq : sm (((i : Int) + b / 91) % 6) := ⟨q0, by omega⟩
    have l1 := intS_len hd.1
    have l2 := intS_len hd.2.1
    have l3 := intS_len smq
    have eq6 : (doorI n a b c i).2.2 = lock6 (((i : Int) + b / 91) % 6) := rfl
    refine .inl (nx_less (env1 := [.dat (.list (ns.map .int)), .dat (.int n), .dat (.list [.int a, .int b, .int c]), .dat (.int i), .own (Y.map doorD ++ [doorD (doorI n a b c i)]), .dat (.str (Z ++ nlS ++ doorS (doorI n a b c i))), .dat (.int ((i : Int) * a % n)), .dat (.int ((i : Int) * c % n)), .dat (.int (((i : Int) + b / 91) % 6)), .no, .no, .no]) ?_ (by walk_at "less"))
    refine sx_seq (sx_set (ev_I (ev_I (ev_var rfl) (more rfl rfl) (cm0 (by omega)) rfl) (ev_var rfl) n0 rfl)) ?_
    refine sx_seq (sx_set (ev_I (ev_I (ev_var rfl) (more rfl rfl) (cm0 (by omega)) rfl) (ev_var rfl) n0 rfl)) ?_
    refine sx_seq (sx_set (ev_I (ev_I0 (ev_var rfl) (ev_I (more rfl rfl) (ev_c rfl) ⟨by decide, by decide⟩ rfl) rfl) (ev_c rfl) (by decide) rfl)) ?_
    refine sx_seq (sx_app (d := doorD (doorI n a b c i)) rfl (ev_tup (ea_cons (ev_var rfl) (ea_cons (ev_var rfl) (ea_cons (ev_ixL (i := ((i : Int) + b / 91) % 6) (ds := [.int 0, .int 1, .int 2, .int 3, .int 4, .none]) (by walk_at "ev") (ev_var rfl) ((at6 q0 q1).trans (by rw [lock6_is q0 q1, eq6]))) ea_nil))) (Nat.le_of_ble_eq_true rfl)) sz) ?_
    have l4 : (catS Str.empty [Str.ofString "door ", intS ((i : Int) * a % n), Str.ofString " ", intS ((i : Int) * c % n)]).length ≤ 10 := by
      rw [catS_len4, s1, s2]
      have l1' : (intS ((i : Int) * a % n)).length ≤ 2 := l1
      have l2' : (intS ((i : Int) * c % n)).length ≤ 2 := l2
      omega
    have l4' : (catS Str.empty [Str.ofString "door ", intS (doorI n a b c i).1, Str.ofString " ", intS (doorI n a b c i).2.1]).length ≤ 10 := l4
    have l5 : (catS Str.empty [Str.ofString " by ", intS (((i : Int) + b / 91) % 6)]).length ≤ 6 := by
      rw [catS_len2, s3]; omega
    have tl : Ev K (tOp (rIxL K) (tLst (tCons (tC (.str (Str.ofString ""))) (tCons (fun σ H Q => tJs [tC (.str (Str.ofString " by ")), tFmt (tVar 8)] Str.empty σ H fun out H1 => Q (.str out) H1) tNil))) (tCB (fun xs H Q => (∃ i, xs = [.int i] ∧ Q (.int i) H) ∨ ∃ k, xs = [.bl k] ∧ Q (.int (if k then 1 else 0)) H) (tCons (tOp (rI0 fun i j => V.bl (decide (i < j))) (tVar 8) (tC (.int 5))) tNil))) [.dat (.list (ns.map .int)), .dat (.int n), .dat (.list [.int a, .int b, .int c]), .dat (.int i), .own (Y.map doorD ++ [doorD (doorI n a b c i)]), .dat (.str Z), .dat (.int ((i : Int) * a % n)), .dat (.int ((i : Int) * c % n)), .dat (.int (((i : Int) + b / 91) % 6)), .no, .no, .no] (.str (if ((i : Int) + b / 91) % 6 < 5 then catS Str.empty [Str.ofString " by ", intS (((i : Int) + b / 91) % 6)] else Str.ofString "")) := by
      refine ev_ixL (ds := [.str (Str.ofString ""), .str (catS Str.empty [Str.ofString " by ", intS (((i : Int) + b / 91) % 6)])]) (ev_lst (ea_cons (ev_c rfl) (ea_cons (ev_js (.cons (ev_c rfl) (.cons (ev_fmtS (ev_var rfl) smq) .nil)) (by omega)) ea_nil)) (Nat.le_of_ble_eq_true rfl)) (ev_intb (ev_I0 (ev_var rfl) (ev_c rfl) rfl)) ?_
      by_cases c5 : ((i : Int) + b / 91) % 6 < 5
      · rw [decide_eq_true c5, if_pos c5]; rfl
      · rw [decide_eq_false c5, if_neg c5]; rfl
    refine (sx_set (d := .str (Z ++ nlS ++ doorS (doorI n a b c i))) ((ev_addS (ev_addS (ev_addS (ev_var (d := .str Z) rfl) (ev_c (d := .str nlS) rfl) (by rw [s7]; omega)) (ev_js (.cons (ev_c rfl) (.cons (ev_fmtS (ev_var rfl) hd.1) (.cons (ev_c rfl) (.cons (ev_fmtS (ev_var rfl) hd.2.1) .nil)))) (Nat.le_trans l4 (by decide))) (by rw [len_app, s7]; omega)) tl ?_).is ?_)).to rfl
    · rw [len_app, len_app, s7]
      split
      · omega
      · have : (Str.ofString "").length = 0 := by decide +kernel
        omega
    · congr 1
      rw [app_assoc (Z ++ nlS)]
      congr 1
      unfold doorS
      rw [eq6]
      unfold lock6
      split
      · exact tail_some _ _ _ _ _ _
      · exact tail_none _
  -- the keys
  generalize hkdE : (b % 91).toNat = kd at hkd
  refine sx_seq (sx_setO (eo_lst ea_nil (by decide))) ?_
  refine sx_seq (sx_forR1 (n := (c % 61).toNat) (ea_cons (ev_I (more rfl rfl) (ev_c rfl) (by decide) rfl) ea_nil) (by omega) rfl (fun i => [.dat (.list (ns.map .int)), .dat (.int n), .dat (.list [.int a, .int b, .int c]), .no, .own ((doorsI n a b c kd).map doorD), .dat (.str (dueS n (doorsI n a b c kd) (keysI n a b i))), .no, .no, .no, .own ((keysI n a b i).map keyD), .no, .no]) rfl fun i hi => ?_) ?_
  · refine ⟨_, tg_name, ?_⟩
    try dsimp only
    have hi' : i < 60 := by omega
    have eD : keysI n a b (i + 1) = keysI n a b i ++ [keyI n a b i] := range_next _ _
    have hl := dueS_len (mazeI hn a b c (i := kd) (j := i) hkd (by omega))
    have hd := (mazeI hn a b c (i := kd) (j := i + 1) hkd (by omega)).2.2.2 (keyI n a b i) (by show _ ∈ keysI n a b (i + 1); rw [eD]; exact List.mem_append.mpr (.inr (List.mem_singleton.mpr rfl)))
    have sz : ((keysI n a b i).map keyD).length = i := by
      rw [List.length_map]; unfold keysI; rw [List.length_map, List.length_range]
    rw [eD, due_key, List.map_append]
    generalize dueS n (doorsI n a b c kd) (keysI n a b i) = Z at hl
    generalize (keysI n a b i).map keyD = Y at sz
    have at1 : atI (Y ++ [keyD (keyI n a b i)]) (i : Int) = some (keyD (keyI n a b i)) := atI_nat' (by rw [List.getElem?_append_right (by omega), sz, Nat.sub_self]; rfl)
    have l1 := intS_len hd.1
    have l2 := intS_len hd.2
    have l6 : (Str.ofString "\nkey ").length = 5 := by decide +kernel
    refine .inl (nx_less (env1 := [.dat (.list (ns.map .int)), .dat (.int n), .dat (.list [.int a, .int b, .int c]), .dat (.int i), .own ((doorsI n a b c kd).map doorD), .dat (.str (Z ++ nlS ++ keyS (keyI n a b i))), .no, .no, .no, .own (Y ++ [keyD (keyI n a b i)]), .no, .no]) ?_ (by walk_at "less"))
    refine sx_seq (sx_app (d := keyD (keyI n a b i)) rfl (ev_tup (ea_cons (ev_I (ev_I (ev_var rfl) (more rfl rfl) (cm0 (by omega)) rfl) (ev_var rfl) n0 rfl) (ea_cons (ev_I (ev_I0 (ev_var rfl) (more rfl rfl) rfl) (ev_c rfl) (by decide) rfl) ea_nil)) (Nat.le_of_ble_eq_true rfl)) (by omega)) ?_
    refine (sx_set (d := .str (Z ++ nlS ++ keyS (keyI n a b i))) ((ev_addS (ev_addS (ev_addS (ev_addS (ev_var (d := .str Z) rfl) (ev_c (d := .str (Str.ofString "\nkey ")) rfl) (by rw [l6]; omega)) (ev_strI (ev_ixT (ds := [.int (keyI n a b i).1, .int (keyI n a b i).2]) (ev_ixO (el_var rfl) (ev_var rfl) at1 fun _ _ _ _ => trivial) (ev_c rfl) rfl) (sm_log hd.2)) (by rw [len_app, l6]; omega)) (ev_c (d := .str (Str.ofString " in ")) rfl) (by rw [len_app, len_app, l6, s5']; omega)) (ev_strI (ev_ixT (ds := [.int (keyI n a b i).1, .int (keyI n a b i).2]) (ev_ixO (el_var rfl) (ev_var rfl) at1 fun _ _ _ _ => trivial) (ev_c rfl) rfl) (sm_log hd.1)) (by rw [len_app, len_app, len_app, l6, s5']; omega)).is (by rw [key_line]; rfl))).to rfl
  generalize hkkE : (c % 61).toNat = kk
  have hkk : kk ≤ 60 := by omega
  have hM := mazeI hn a b c (i := kd) (j := kk) hkd hkk
  generalize doorsI n a b c kd = L at hM
  generalize keysI n a b kk = Ks at hM
  refine sx_seq (sx_set (d := mazeD ⟨n, L, Ks⟩) (ev_tup (ea_cons (ev_var rfl) (ea_cons (EvO.ev (eo_listO (el_var rfl))) (ea_cons (EvO.ev (eo_listO (el_var rfl))) ea_nil))) (Nat.le_of_ble_eq_true rfl))) ?_
  refine sx_seq (sx_set (ev_call (ea_cons (ev_var rfl) ea_nil) ⟨⟨n, L, Ks⟩, hM, rfl, rfl⟩)) ?_
  refine sx_fix 4 rfl (sx_fix 9 rfl ?_)
  refine sx_ret ((ev_andV (a := true) (b := true) (ev_isi (ev_var rfl) (kit_ty (by decide +kernel))) fun _ => (ev_andV (a := decide (textF ⟨n, L, Ks⟩ = textF ⟨n, L, Ks⟩)) (b := PyData.eqv (mazeD ⟨n, L, Ks⟩) (mazeD ⟨n, L, Ks⟩)) (ev_eqS (ev_var rfl) (ev_var rfl)) fun _ => ev_eqD (ev_var rfl) (ev_tup (ea_cons (ev_var rfl) (ea_cons (ev_var rfl) (ea_cons (ev_var rfl) ea_nil))) (Nat.le_of_ble_eq_true rfl)) ((sh_maze _).shaped (by decide)) ((sh_maze ⟨n, L, Ks⟩).shaped (by decide))).is ?_).is rfl)
  rw [eqv_dec (sh_maze ⟨n, L, Ks⟩) (sh_maze ⟨n, L, Ks⟩) (p := True) ⟨fun _ => rfl, fun _ => trivial⟩, decide_eq_true rfl]; rfl

end
theorem all_mk {l : PySem.W.OpenLaw} {w : World} {K : PySem.W.Frag} {h : Heap} {mg : PySem.Str → Option Value} {fa : Addr} (X : K.In h) (G : h.Ns mainGlobals mg) (hfa : mg "law" = some (.ref fa))
    {ad_written : Addr} {od_written an_written : Option Addr} {sl_written : Array (Option Value)} {oc_written kV_written dc_written pm_written cd_written ct_written : Value}
    {ad_door_row : Addr} {od_door_row an_door_row : Option Addr} {sl_door_row : Array (Option Value)} {oc_door_row kV_door_row dc_door_row pm_door_row cd_door_row ct_door_row : Value}
    {ad_key_row : Addr} {od_key_row an_key_row : Option Addr} {sl_key_row : Array (Option Value)} {oc_key_row kV_key_row dc_key_row pm_key_row cd_key_row ct_key_row : Value}
    {ad_l_mix : Addr} {od_l_mix an_l_mix : Option Addr} {sl_l_mix : Array (Option Value)} {oc_l_mix kV_l_mix dc_l_mix pm_l_mix cd_l_mix ct_l_mix : Value}
    {ad_l_cell_at : Addr} {od_l_cell_at an_l_cell_at : Option Addr} {sl_l_cell_at : Array (Option Value)} {oc_l_cell_at kV_l_cell_at dc_l_cell_at pm_l_cell_at cd_l_cell_at ct_l_cell_at : Value}
    {ad_law : Addr} {od_law an_law : Option Addr} {sl_law : Array (Option Value)} {oc_law kV_law dc_law pm_law cd_law ct_law : Value}
    (a_written : PySem.W.nsIn K mainGlobals "written" = some (some (.ref ad_written)))
    (l_written : K.lookup ad_written = some ⟨oc_written, od_written, .func (PySem.W.fnOf "written" "written" (defArgs s_written) (defBody s_written) (defScope s_written) .none kV_written dc_written pm_written an_written cd_written ct_written), sl_written⟩)
    (c_written : PySem.W.codeIn K cd_written "written" = true)
    (k_written : PySem.W.keepIn K (.ref ad_written) = true)
    (a_door_row : PySem.W.nsIn K mainGlobals "door_row" = some (some (.ref ad_door_row)))
    (l_door_row : K.lookup ad_door_row = some ⟨oc_door_row, od_door_row, .func (PySem.W.fnOf "door_row" "door_row" (defArgs s_door_row) (defBody s_door_row) (defScope s_door_row) .none kV_door_row dc_door_row pm_door_row an_door_row cd_door_row ct_door_row), sl_door_row⟩)
    (c_door_row : PySem.W.codeIn K cd_door_row "door_row" = true)
    (k_door_row : PySem.W.keepIn K (.ref ad_door_row) = true)
    (a_key_row : PySem.W.nsIn K mainGlobals "key_row" = some (some (.ref ad_key_row)))
    (l_key_row : K.lookup ad_key_row = some ⟨oc_key_row, od_key_row, .func (PySem.W.fnOf "key_row" "key_row" (defArgs s_key_row) (defBody s_key_row) (defScope s_key_row) .none kV_key_row dc_key_row pm_key_row an_key_row cd_key_row ct_key_row), sl_key_row⟩)
    (c_key_row : PySem.W.codeIn K cd_key_row "key_row" = true)
    (k_key_row : PySem.W.keepIn K (.ref ad_key_row) = true)
    (a_l_mix : PySem.W.nsIn K mainGlobals "_law_mix" = some (some (.ref ad_l_mix)))
    (l_l_mix : K.lookup ad_l_mix = some ⟨oc_l_mix, od_l_mix, .func (PySem.W.fnOf "_law_mix" "_law_mix" (defArgs s_l_mix) (defBody s_l_mix) (defScope s_l_mix) .none kV_l_mix dc_l_mix pm_l_mix an_l_mix cd_l_mix ct_l_mix), sl_l_mix⟩)
    (c_l_mix : PySem.W.codeIn K cd_l_mix "_law_mix" = true)
    (k_l_mix : PySem.W.keepIn K (.ref ad_l_mix) = true)
    (a_l_cell_at : PySem.W.nsIn K mainGlobals "_law_cell_at" = some (some (.ref ad_l_cell_at)))
    (l_l_cell_at : K.lookup ad_l_cell_at = some ⟨oc_l_cell_at, od_l_cell_at, .func (PySem.W.fnOf "_law_cell_at" "_law_cell_at" (defArgs s_l_cell_at) (defBody s_l_cell_at) (defScope s_l_cell_at) .none kV_l_cell_at dc_l_cell_at pm_l_cell_at an_l_cell_at cd_l_cell_at ct_l_cell_at), sl_l_cell_at⟩)
    (c_l_cell_at : PySem.W.codeIn K cd_l_cell_at "_law_cell_at" = true)
    (k_l_cell_at : PySem.W.keepIn K (.ref ad_l_cell_at) = true)
    (a_law : PySem.W.nsIn K mainGlobals "law" = some (some (.ref ad_law)))
    (l_law : K.lookup ad_law = some ⟨oc_law, od_law, .func (PySem.W.fnOf "law" "law" (defArgs s_law) (defBody s_law) (defScope s_law) .none kV_law dc_law pm_law an_law cd_law ct_law), sl_law⟩)
    (c_law : PySem.W.codeIn K cd_law "law" = true)
    (k_law : PySem.W.keepIn K (.ref ad_law) = true)
    (z_int : PySem.W.nsIn K mainGlobals "int" = some none)
    (z_isinstance : PySem.W.nsIn K mainGlobals "isinstance" = some none)
    (z_len : PySem.W.nsIn K mainGlobals "len" = some none)
    (z_list : PySem.W.nsIn K mainGlobals "list" = some none)
    (z_range : PySem.W.nsIn K mainGlobals "range" = some none)
    (z_str : PySem.W.nsIn K mainGlobals "str" = some none)
    : ∃ fd : FuncData, (∀ (s : Shared) (v : Value), BindsTo s fd ⟨[v], []⟩ [("_law_script", v)]) ∧ ∀ base : Heap, K.In base → base.Ns mainGlobals mg → FnOk l.prog w K mg base CX0 3 fa fd ["_law_script"] (spLaw K) := by
  have e : fa = ad_law := by
    have z := hfa.symm.trans (PySem.W.mg_of X G a_law)
    injection z with z
    injection z
  have f_written := fun_mk (st := s_written) l_written c_written k_written
  have f_door_row := fun_mk (st := s_door_row) l_door_row c_door_row k_door_row
  have f_key_row := fun_mk (st := s_key_row) l_key_row c_key_row k_key_row
  have f_l_mix := fun_mk (st := s_l_mix) l_l_mix c_l_mix k_l_mix
  have f_l_cell_at := fun_mk (st := s_l_cell_at) l_l_cell_at c_l_cell_at k_l_cell_at
  have f_law := fun_mk (st := s_law) l_law c_law k_law
  have T : Txt K mg { a_written := ad_written, d_written := PySem.W.fnOf "written" "written" (defArgs s_written) (defBody s_written) (defScope s_written) .none kV_written dc_written pm_written an_written cd_written ct_written, a_door_row := ad_door_row, d_door_row := PySem.W.fnOf "door_row" "door_row" (defArgs s_door_row) (defBody s_door_row) (defScope s_door_row) .none kV_door_row dc_door_row pm_door_row an_door_row cd_door_row ct_door_row, a_key_row := ad_key_row, d_key_row := PySem.W.fnOf "key_row" "key_row" (defArgs s_key_row) (defBody s_key_row) (defScope s_key_row) .none kV_key_row dc_key_row pm_key_row an_key_row cd_key_row ct_key_row, a_l_mix := ad_l_mix, d_l_mix := PySem.W.fnOf "_law_mix" "_law_mix" (defArgs s_l_mix) (defBody s_l_mix) (defScope s_l_mix) .none kV_l_mix dc_l_mix pm_l_mix an_l_mix cd_l_mix ct_l_mix, a_l_cell_at := ad_l_cell_at, d_l_cell_at := PySem.W.fnOf "_law_cell_at" "_law_cell_at" (defArgs s_l_cell_at) (defBody s_l_cell_at) (defScope s_l_cell_at) .none kV_l_cell_at dc_l_cell_at pm_l_cell_at an_l_cell_at cd_l_cell_at ct_l_cell_at, a_law := ad_law, d_law := PySem.W.fnOf "law" "law" (defArgs s_law) (defBody s_law) (defScope s_law) .none kV_law dc_law pm_law an_law cd_law ct_law } :=
    { g_written := PySem.W.mg_of X G a_written, f_written := f_written, g_door_row := PySem.W.mg_of X G a_door_row, f_door_row := f_door_row, g_key_row := PySem.W.mg_of X G a_key_row, f_key_row := f_key_row, g_l_mix := PySem.W.mg_of X G a_l_mix, f_l_mix := f_l_mix, g_l_cell_at := PySem.W.mg_of X G a_l_cell_at, f_l_cell_at := f_l_cell_at, g_law := PySem.W.mg_of X G a_law, f_law := f_law, u_int := PySem.W.mg_none_of X G z_int, u_isinstance := PySem.W.mg_none_of X G z_isinstance, u_len := PySem.W.mg_none_of X G z_len, u_list := PySem.W.mg_none_of X G z_list, u_range := PySem.W.mg_none_of X G z_range, u_str := PySem.W.mg_none_of X G z_str }
  rw [e]
  exact ⟨_, fun s v => .of_eq rfl, fun base _ _ => ok_law T⟩
end MG
open PySem PySem.W PyProof.Rows
set_option maxRecDepth 100000 in
set_option maxHeartbeats 0 in
theorem PySem.Challenge.cw_mazeguide_k11_written_holds : PySem.Challenge.rw_mazeguide_k11_written.Holds := by
  w_on; o_law; k_head; (case hw => w_witness2)
  k_fill
  refine L2.walk_of (l := PySem.Challenge.rw_mazeguide_k11_written) (n := 63) (k := 3) (x := "_law_script") (CX := fun _ => L2.CX0) (sp := fun w => MG.spLaw _) rfl (by decide) rfl ⟨rfl, by decide, by decide⟩ (fun w h Y => PySem.W.kIn_of Y) ?F (fun _ _ a ns hl _ hS => ⟨a, ns, rfl, hS, hl, fun _ => rfl⟩) (fun _ _ _ _ _ h => h)
  case F =>
    intro w mg fa h KX G hmg
    refine' MG.all_mk KX G hmg ?a_written ?l_written ?c_written ?k_written ?a_door_row ?l_door_row ?c_door_row ?k_door_row ?a_key_row ?l_key_row ?c_key_row ?k_key_row ?a_l_mix ?l_l_mix ?c_l_mix ?k_l_mix ?a_l_cell_at ?l_l_cell_at ?c_l_cell_at ?k_l_cell_at ?a_law ?l_law ?c_law ?k_law ?z_int ?z_isinstance ?z_len ?z_list ?z_range ?z_str
    (case a_written => k_is)
    (case l_written => k_is)
    (case c_written => k_is)
    (case k_written => k_is)
    (case a_door_row => k_is)
    (case l_door_row => k_is)
    (case c_door_row => k_is)
    (case k_door_row => k_is)
    (case a_key_row => k_is)
    (case l_key_row => k_is)
    (case c_key_row => k_is)
    (case k_key_row => k_is)
    (case a_l_mix => k_is)
    (case l_l_mix => k_is)
    (case c_l_mix => k_is)
    (case k_l_mix => k_is)
    (case a_l_cell_at => k_is)
    (case l_l_cell_at => k_is)
    (case c_l_cell_at => k_is)
    (case k_l_cell_at => k_is)
    (case a_law => k_is)
    (case l_law => k_is)
    (case c_law => k_is)
    (case k_law => k_is)
    (case z_int => k_is)
    (case z_isinstance => k_is)
    (case z_len => k_is)
    (case z_list => k_is)
    (case z_range => k_is)
    (case z_str => k_is)
