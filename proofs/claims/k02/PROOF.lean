import PyProof.Rows.All
import Wide.All
import OpenK.AllK
import Wide.FinOn
import HandS.ExcCtx
import HandS.HotCalls
import HandS.SuiteRaise
import HandS.ForMost
import HandS.ForExc
import HandS.IsInst
import HandS.Flow
import HandS.Defaults
import HandS.CallSlots
import HandS.ExcInit
import HandS.ExcField
import HandS.TryMany
import HandS.Gcd
import HandS.Wide
import HandS.TupAny
import HandS.TupLe
import HandS.Style
import HandS.MakeKw
import PyProof.NoPylong
import Flt.Len
import PyProof.ReprRoads
import PyProof.StrLawsRepr
import HandS.Iter
import PyProof.EnumMake
import PyProof.Draws
import PyProof.TupleIter
import PyProof.WalksMore
import PyProof.EnumFor
import HandS.List
import HandS.Walk
import KE.DataMinMax
import HandS.Deep
import HandS.TupMul
import HandS.TupSets
import HandS.OwnEq
import HandS.SortRule
import HandS.NamedTupSort
import PyProof.TupleOfSeq
import KE.KDictItemsList
import KE.GoesNew
import KE.GoesEnum
import HandS.Zip
import KE.GoesZip
import PyProof.ZipIter
import HandS.Property
import HandS.Star
import HandS.Hot
import PyProof.Seq
import HandS.Comp
import HandS.ExcInitHot
import PySem.Challenge.RW_tautparcel_k02_whole_boxes_faces_and_edg
set_option Elab.async false
set_option linter.all false
set_option maxRecDepth 100000
namespace Ez
open L2 PySem PyProof.Rows PySem.Spec
abbrev Ex := L2.Same
theorem Ex.refl (h : Hp) : Ex h h := fun _ _ e => e
theorem Ex.trans {h1 h2 h3 : Hp} (a : Ex h1 h2) (b : Ex h2 h3) : Ex h1 h3 := fun x o e => b x o (a x o e)
theorem Ex.new {p : Addr} {H : Hp} {o : HO} (h : H p = none) : Ex H (upd H p o) := fun a u e => by
  by_cases z : a = p
  · rw [z, h] at e; cases e
  · rw [upd_ne z]; exact e
structure KB where
  K : PySem.W.Frag
  /-- where classes, defs stand; the fields of a class's things, of its errors -/
  cls : Nat → Addr
  fn : Nat → Addr
  fld : Nat → List Str
  xf : Nat → List Str
  /-- the kind of the hand -/
  hk : Nat
structure KT extends KB where
  /-- where the hand lies -/
  hand : Addr
instance : Coe KB PySem.W.Frag := ⟨KB.K⟩
instance : Coe KT PySem.W.Frag := ⟨fun k => k.K⟩
/-- plain data of a run -/
inductive D where
  | non
  | bl (b : Bool)
  | int (i : Int)
  | str (x : Str)
  | tup (l : List D)
  | lst (l : List D)
  | ins (c : Nat) (ds : List D)
  | adr (a : Addr)
  | ty (n : String)
  | fn (i : Nat)
  | cls (c : Nat)
  | hand
  | exc (a dx C : Addr) (ns : List Str) (ds : List D)
  | scr (l : List D)
/-- a list, a tuple that may be read for good -/
def LAt (_K : KT) (G : Hp) (a : Addr) (xs : List V) : Prop := G a = some (.lst xs)
def TAt (K : KT) (G : Hp) (a : Addr) (xs : List V) : Prop :=
  G a = some (.tup xs) ∨ ∃ o its n, List.lookup a K.K = some o ∧ o.cls = Value.type "tuple" ∧ o.data = Data.seq its n ∧ its.size ≤ sizeLine ∧ Vals xs its.toList
mutual
def Is (K : KT) (G : Hp) : D → V → Prop
  | .non, v => v = .non
  | .bl b, v => v = .bl b
  | .int i, v => v = .int i
  | .str x, v => v = .str x
  | .tup ds, v => ∃ a xs, v = .ref a ∧ TAt K G a xs ∧ IsL K G ds xs
  | .lst ds, v => ∃ a xs, v = .ref a ∧ LAt K G a xs ∧ IsL K G ds xs
  | .ins c ds, v => ∃ a dx xs, v = .ref a ∧ G a = some (.ins (K.cls c) dx ((K.fld c).zip xs)) ∧ (K.fld c).length = ds.length ∧ IsL K G ds xs
  | .fn i, v => v = .ref (K.fn i)
  | .cls c, v => v = .ref (K.cls c)
  | .hand, v => v = .ref K.hand
  | .adr a, v => v = .ref a
  | .ty n, v => v = .ty n
  | .exc a dx C ns ds, v => ∃ xs, v = .ref a ∧ G dx = some (.xd (ns.zip xs)) ∧ ns.length = ds.length ∧ IsL K G ds xs
  | .scr ds, v => ∃ a xs, v = .ref a ∧ SqL K G a xs ∧ IsL K G ds xs
def IsL (K : KT) (G : Hp) : List D → List V → Prop
  | [], xs => xs = []
  | d :: ds, xs => ∃ x r, xs = x :: r ∧ Is K G d x ∧ IsL K G ds r
end
section
variable {K : KT} {G G' H H' : Hp}
theorem LAt.mono (e : Ex G G') {a : Addr} {xs : List V} (h : LAt K G a xs) : LAt K G' a xs := e _ _ h
theorem TAt.mono (e : Ex G G') {a : Addr} {xs : List V} (h : TAt K G a xs) : TAt K G' a xs := h.imp (e _ _) id
theorem LAt.sq (e : Ex G H) {a : Addr} {xs : List V} (h : LAt K G a xs) : SqL K H a xs := .inl (.inl (e _ _ h))
theorem TAt.sq (e : Ex G H) {a : Addr} {xs : List V} (h : TAt K G a xs) : SqT K H a xs := h.elim (fun z => .inl (.inl (e _ _ z))) .inr
mutual
theorem Is.mono (e : Ex G G') : ∀ (d : D) {v : V}, Is K G d v → Is K G' d v
  | .non, _, h => h
  | .bl _, _, h => h
  | .int _, _, h => h
  | .str _, _, h => h
  | .adr _, _, h => h
  | .ty _, _, h => h
  | .tup ds, _, ⟨a, xs, p, q, r⟩ => ⟨a, xs, p, q.mono e, IsL.mono e ds r⟩
  | .lst ds, _, ⟨a, xs, p, q, r⟩ => ⟨a, xs, p, q.mono e, IsL.mono e ds r⟩
  | .fn _, _, h => h
  | .cls _, _, h => h
  | .hand, _, h => h
  | .ins c ds, _, ⟨a, dx, xs, p, q, z, r⟩ => ⟨a, dx, xs, p, e _ _ q, z, IsL.mono e ds r⟩
  | .exc a dx C ns ds, _, ⟨xs, p, q, z, r⟩ => ⟨xs, p, e _ _ q, z, IsL.mono e ds r⟩
  | .scr ds, _, ⟨a, xs, p, q, r⟩ => ⟨a, xs, p, q.imp (fun q => q.imp (e _ _) fun ⟨o, z⟩ => ⟨o, e _ _ z⟩) id, IsL.mono e ds r⟩
theorem IsL.mono (e : Ex G G') : ∀ (ds : List D) {xs : List V}, IsL K G ds xs → IsL K G' ds xs
  | [], _, h => h
  | d :: ds, _, ⟨x, r, p, q, t⟩ => ⟨x, r, p, Is.mono e d q, IsL.mono e ds t⟩
end
theorem IsL.len : ∀ {ds : List D} {xs : List V}, IsL K G ds xs → xs.length = ds.length
  | [], _, h => by cases (show _ = [] from h); rfl
  | d :: ds, _, ⟨x, r, p, q, t⟩ => by rw [p, List.length_cons, List.length_cons, IsL.len t]
theorem IsL.get : ∀ {ds : List D} {xs : List V} {i : Nat} {d : D}, IsL K G ds xs → ds[i]? = some d → ∃ x, xs[i]? = some x ∧ Is K G d x
  | [], _, i, _, _, h => by simp at h
  | e :: ds, _, 0, d, ⟨x, r, p, q, t⟩, h => by
    have z : e = d := by simpa using h
    subst z; exact ⟨x, by rw [p]; rfl, q⟩
  | e :: ds, _, i + 1, d, ⟨x, r, p, q, t⟩, h => by
    obtain ⟨y, a, b⟩ := IsL.get (i := i) t (by simpa using h)
    exact ⟨y, by rw [p]; simpa using a, b⟩
theorem IsL.back : ∀ {ds : List D} {xs : List V} {i : Nat} {x : V}, IsL K G ds xs → xs[i]? = some x → ∃ d, ds[i]? = some d ∧ Is K G d x
  | [], _, i, x, h, k => by cases (show _ = [] from h); simp at k
  | e :: ds, _, 0, x, ⟨y, r, p, q, t⟩, h => by
    rw [p] at h
    have z : y = x := by simpa using h
    subst z; exact ⟨e, rfl, q⟩
  | e :: ds, _, i + 1, x, ⟨y, r, p, q, t⟩, h => by
    rw [p] at h
    obtain ⟨d, a, b⟩ := IsL.back (i := i) t (by simpa using h)
    exact ⟨d, by simpa using a, b⟩
theorem IsL.app : ∀ {ds es : List D} {xs ys : List V}, IsL K G ds xs → IsL K G es ys → IsL K G (ds ++ es) (xs ++ ys)
  | [], _, _, _, h, k => by cases (show _ = [] from h); exact k
  | d :: ds, es, _, ys, ⟨x, r, p, q, t⟩, k => ⟨x, r ++ ys, by rw [p]; rfl, q, IsL.app t k⟩
theorem IsL.one {d : D} {v : V} (h : Is K G d v) : IsL K G [d] [v] := ⟨v, [], rfl, h, rfl⟩
theorem IsL.take : ∀ {ds : List D} {xs : List V} (n : Nat), IsL K G ds xs → IsL K G (ds.take n) (xs.take n)
  | ds, xs, 0, h => rfl
  | [], _, n + 1, h => by cases (show _ = [] from h); exact rfl
  | d :: ds, _, n + 1, ⟨x, r, p, q, t⟩ => ⟨x, r.take n, by rw [p]; rfl, q, IsL.take n t⟩
theorem IsL.drop : ∀ {ds : List D} {xs : List V} (n : Nat), IsL K G ds xs → IsL K G (ds.drop n) (xs.drop n)
  | ds, xs, 0, h => h
  | [], _, n + 1, h => by cases (show _ = [] from h); exact rfl
  | d :: ds, _, n + 1, ⟨x, r, p, q, t⟩ => by rw [p]; exact IsL.drop n t
end
structure Wd where
  M : Addr → Prop
  J : Hp → Hp → Prop
  stb : ∀ {G H G' H' : Hp}, J G H → Ex G G' → (∀ a, M a → H' a = H a) → J G' H'
/-- nothing is written -/
def W0 : Wd := ⟨fun _ => False, fun _ _ => True, fun _ _ _ => trivial⟩
structure Ok (W : Wd) (G H : Hp) : Prop where
  sub : Ex G H
  cln : ∀ a, W.M a → G a = none
  liv : ∀ a, W.M a → ∃ o, H a = some o
  inv : W.J G H
structure Stp (W : Wd) (G H G' H' : Hp) : Prop where
  ok : Ok W G' H'
  ex : Ex G G'
  fresh : ∀ a o, G' a = some o → G a = some o ∨ H a = none
  kp : ∀ a o, ¬ W.M a → H a = some o → H' a = some o
  th : ∀ a o, H a = some o → ∃ o', H' a = some o'
section
variable {W : Wd} {G H G1 H1 G2 H2 G0 H0 : Hp} {p : Addr} {o : HO}
theorem Stp.refl (h : Ok W G H) : Stp W G H G H := ⟨h, Ex.refl G, fun _ _ e => .inl e, fun _ _ _ e => e, fun _ o e => ⟨o, e⟩⟩
theorem none_of_th {H H' : Hp} (th : ∀ a o, H a = some o → ∃ o', H' a = some o') {a : Addr} (h : H' a = none) : H a = none := by
  cases e : H a with
  | none => rfl
  | some o => obtain ⟨o', z⟩ := th a o e; rw [h] at z; cases z
theorem Stp.trans (s : Stp W G H G1 H1) (t : Stp W G1 H1 G2 H2) : Stp W G H G2 H2 :=
  ⟨t.ok, s.ex.trans t.ex, fun a o e => (t.fresh a o e).elim (fun z => s.fresh a o z) fun z => .inr (none_of_th s.th z), fun a o n e => t.kp a o n (s.kp a o n e), fun a o e => let ⟨o1, e1⟩ := s.th a o e; t.th a o1 e1⟩
theorem Ok.notM (h : Ok W G H) (e : H p = none) : ¬ W.M p := fun m => by obtain ⟨o, z⟩ := h.liv p m; rw [e] at z; cases z
theorem Ex.upd2 (e : Ex G H) (h : H p = none) : Ex (upd G p o) (upd H p o) := fun a u q => by
  by_cases z : a = p
  · subst z; rw [upd_same] at q ⊢; exact q
  · rw [upd_ne z] at q ⊢; exact e a u q
/-- a new object, kept for good -/
theorem Stp.lay (s : Stp W G0 H0 G H) (h : H p = none) : Stp W G0 H0 (upd G p o) (upd H p o) where
  ok := ⟨Ex.upd2 s.ok.sub h, fun a m => by
      have z : a ≠ p := fun e => s.ok.notM h (e ▸ m)
      rw [upd_ne z]; exact s.ok.cln a m, fun a m => by
      have z : a ≠ p := fun e => s.ok.notM h (e ▸ m)
      rw [upd_ne z]; exact s.ok.liv a m, W.stb s.ok.inv (Ex.new (none_of_th (fun a o e => ⟨o, s.ok.sub a o e⟩) h)) fun a m => upd_ne fun e => s.ok.notM h (e ▸ m)⟩
  ex := s.ex.trans (Ex.new (none_of_th (fun a o e => ⟨o, s.ok.sub a o e⟩) h))
  fresh := fun a u e => by
    by_cases z : a = p
    · subst z; exact .inr (none_of_th s.th h)
    · rw [upd_ne z] at e; exact s.fresh a u e
  kp := fun a u n e => by
    have z : a ≠ p := fun q => by
      have := none_of_th s.th h
      rw [q, this] at e; cases e
    rw [upd_ne z]; exact s.kp a u n e
  th := fun a u e => by
    by_cases z : a = p
    · subst z; exact ⟨o, upd_same⟩
    · rw [upd_ne z]; exact s.th a u e
/-- an own object is written (or a new one made), not kept for good -/
theorem Stp.put (s : Stp W G0 H0 G H) (h0 : H0 p = none) (hg : G p = none) (hm : ¬ W.M p) : Stp W G0 H0 G (upd H p o) where
  ok := ⟨fun a u e => by
      have z : a ≠ p := fun q => by rw [q, hg] at e; cases e
      rw [upd_ne z]; exact s.ok.sub a u e, s.ok.cln, fun a m => by
      have z : a ≠ p := fun e => hm (e ▸ m)
      rw [upd_ne z]; exact s.ok.liv a m, W.stb s.ok.inv (Ex.refl G) fun a m => upd_ne fun e => hm (e ▸ m)⟩
  ex := s.ex
  fresh := s.fresh
  kp := fun a u n e => by
    have z : a ≠ p := fun q => by rw [q, h0] at e; cases e
    rw [upd_ne z]; exact s.kp a u n e
  th := fun a u e => by
    have z : a ≠ p := fun q => by rw [q, h0] at e; cases e
    rw [upd_ne z]; exact s.th a u e
/-- an own object is kept for good from here on -/
theorem Stp.keep (s : Stp W G0 H0 G H) (h0 : H0 p = none) (hg : G p = none) (hh : H p = some o) (hm : ¬ W.M p) : Stp W G0 H0 (upd G p o) H where
  ok := ⟨fun a u e => by
      by_cases z : a = p
      · subst z; rw [upd_same] at e; cases e; exact hh
      · rw [upd_ne z] at e; exact s.ok.sub a u e, fun a m => by
      have z : a ≠ p := fun e => hm (e ▸ m)
      rw [upd_ne z]; exact s.ok.cln a m, s.ok.liv, W.stb s.ok.inv (fun a u e => by
        by_cases z : a = p
        · subst z
          have := s.ok.sub _ _ e
          rw [hh] at this; cases this
          exact upd_same
        · rw [upd_ne z]; exact e) fun a m => rfl⟩
  ex := fun a u e => by
    have z : a ≠ p := fun q => by
      have e1 := s.ex a u e
      rw [q, hg] at e1; cases e1
    rw [upd_ne z]; exact s.ex a u e
  fresh := fun a u e => by
    by_cases z : a = p
    · subst z; exact .inr h0
    · rw [upd_ne z] at e; exact s.fresh a u e
  kp := s.kp
  th := s.th
end
end Ez
set_option Elab.async false
set_option linter.all false
set_option maxRecDepth 100000
namespace Ez
open L2 PySem PyProof.Rows PySem.Spec
/-- what is known of a name: nothing; a datum; a list that this run alone holds -/
inductive Sl where
  | unk
  | dat (d : D)
  | own (p : Addr) (ds : List D)
  | obj (p dx : Addr) (k : Nat) (ds : List D)
structure Rel (K : KT) (W : Wd) (H0 G H : Hp) (s : L2.St) (q : List Sl) : Prop where
  len : s.length = q.length
  dat : ∀ (i : Nat) (d : D), q[i]? = some (Sl.dat d) → ∃ v, s[i]? = some (some v) ∧ Is K G d v
  own : ∀ (i : Nat) (p : Addr) (ds : List D), q[i]? = some (Sl.own p ds) → ∃ xs, s[i]? = some (some (.ref p)) ∧ H p = some (.lst xs) ∧ G p = none ∧ H0 p = none ∧ ¬ W.M p ∧ IsL K G ds xs
  sep : ∀ (i j : Nat) (a b : List D) (p : Addr), i ≠ j → q[i]? = some (Sl.own p a) → q[j]? = some (Sl.own p b) → False
  /-- a thing that is being made, by its first fields -/
  obj : ∀ (p dx : Addr) (k : Nat) (ds : List D), q[0]? = some (Sl.obj p dx k ds) → ∃ xs, s[0]? = some (some (.ref p)) ∧ H p = some (.ins (K.cls k) dx (((K.fld k).take ds.length).zip xs)) ∧ ds.length ≤ (K.fld k).length ∧ G p = none ∧ H0 p = none ∧ ¬ W.M p ∧ IsL K G ds xs
section
variable {K : KT} {W : Wd} {G0 H0 G H G' H' : Hp} {s : L2.St} {q : List Sl} {v : V} {d : D} {i : Nat} {p : Addr}
theorem set_get {α : Type} {l : List α} {i j : Nat} {x y : α} (h : (l.set i x)[j]? = some y) : (i = j ∧ x = y) ∨ (i ≠ j ∧ l[j]? = some y) := by
  by_cases e : i = j
  · subst e
    by_cases hi : i < l.length
    · rw [List.getElem?_set_self hi] at h; exact .inl ⟨rfl, Option.some.inj h⟩
    · rw [List.getElem?_eq_none (by simpa using hi)] at h; cases h
  · rw [List.getElem?_set_ne e] at h; exact .inr ⟨e, h⟩
theorem Rel.step (r : Rel K W H0 G H s q) (t : Stp W G H G' H') : Rel K W H0 G' H' s q where
  len := r.len
  dat := fun i d e => let ⟨v, a, b⟩ := r.dat i d e; ⟨v, a, Is.mono t.ex d b⟩
  own := fun i p ds e => by
    obtain ⟨xs, a, b, cc, d, m, f⟩ := r.own i p ds e
    refine ⟨xs, a, t.kp p _ m b, ?_, d, m, IsL.mono t.ex ds f⟩
    cases z : G' p with
    | none => rfl
    | some o =>
      rcases t.fresh p o z with y | y
      · rw [cc] at y; cases y
      · rw [b] at y; cases y
  sep := r.sep
  obj := fun p dx k ds e => by
    obtain ⟨xs, a, b, l, cc, d, m, f⟩ := r.obj p dx k ds e
    refine ⟨xs, a, t.kp p _ m b, l, ?_, d, m, IsL.mono t.ex ds f⟩
    cases z : G' p with
    | none => rfl
    | some o =>
      rcases t.fresh p o z with y | y
      · rw [cc] at y; cases y
      · rw [b] at y; cases y
theorem Rel.setD (r : Rel K W H0 G H s q) (h : Is K G d v) (hi : i < q.length) : Rel K W H0 G H (s.set i (some v)) (q.set i (.dat d)) where
  len := by simp [r.len]
  dat := fun j e z => by
    rcases set_get z with ⟨a, b⟩ | ⟨a, b⟩
    · subst a; cases b
      exact ⟨v, List.getElem?_set_self (by rw [r.len]; exact hi), h⟩
    · rw [List.getElem?_set_ne a]; exact r.dat j e b
  own := fun j p e z => by
    rcases set_get z with ⟨a, b⟩ | ⟨a, b⟩
    · cases b
    · rw [List.getElem?_set_ne a]; exact r.own j p e b
  sep := fun j k a b p n za zb => (set_get za).elim (fun ⟨_, b⟩ => by cases b) fun ⟨_, e2⟩ => (set_get zb).elim (fun ⟨_, b⟩ => by cases b) fun ⟨_, e4⟩ => r.sep j k a b p n e2 e4
  obj := fun p dx k ds z => by
    rcases set_get z with ⟨a, b⟩ | ⟨a, b⟩
    · cases b
    · rw [List.getElem?_set_ne a]; exact r.obj p dx k ds b
theorem Rel.setN (r : Rel K W H0 G H s q) : Rel K W H0 G H (s.set i none) (q.set i .unk) where
  len := by simp [r.len]
  dat := fun j e z => by
    rcases set_get z with ⟨a, b⟩ | ⟨a, b⟩
    · cases b
    · rw [List.getElem?_set_ne a]; exact r.dat j e b
  own := fun j p e z => by
    rcases set_get z with ⟨a, b⟩ | ⟨a, b⟩
    · cases b
    · rw [List.getElem?_set_ne a]; exact r.own j p e b
  sep := fun j k a b p n za zb => (set_get za).elim (fun ⟨_, b⟩ => by cases b) fun ⟨_, e2⟩ => (set_get zb).elim (fun ⟨_, b⟩ => by cases b) fun ⟨_, e4⟩ => r.sep j k a b p n e2 e4
  obj := fun p dx k ds z => by
    rcases set_get z with ⟨a, b⟩ | ⟨a, b⟩
    · cases b
    · rw [List.getElem?_set_ne a]; exact r.obj p dx k ds b
/-- a slot's knowledge is dropped -/
theorem Rel.drop (r : Rel K W H0 G H s q) : Rel K W H0 G H s (q.set i .unk) where
  len := by simp [r.len]
  dat := fun j e z => (set_get z).elim (fun ⟨_, b⟩ => by cases b) fun ⟨_, b⟩ => r.dat j e b
  own := fun j p e z => (set_get z).elim (fun ⟨_, b⟩ => by cases b) fun ⟨_, b⟩ => r.own j p e b
  sep := fun j k a b p n za zb => (set_get za).elim (fun ⟨_, b⟩ => by cases b) fun ⟨_, e2⟩ => (set_get zb).elim (fun ⟨_, b⟩ => by cases b) fun ⟨_, e4⟩ => r.sep j k a b p n e2 e4
  obj := fun p dx k ds z => (set_get z).elim (fun ⟨_, b⟩ => by cases b) fun ⟨_, b⟩ => r.obj p dx k ds b
/-- a new own list -/
theorem Rel.setO (r : Rel K W H0 G H s q) (hp : H p = none) (h0 : H0 p = none) (hg : G p = none) (hm : ¬ W.M p) {xs : List V} {ds : List D} (hl : IsL K G ds xs) (hi : i < q.length) :
    Rel K W H0 G (upd H p (.lst xs)) (s.set i (some (.ref p))) (q.set i (.own p ds)) where
  len := by simp [r.len]
  dat := fun j e z => by
    rcases set_get z with ⟨a, b⟩ | ⟨a, b⟩
    · cases b
    · rw [List.getElem?_set_ne a]; exact r.dat j e b
  own := fun j p' e z => by
    rcases set_get z with ⟨a, b⟩ | ⟨a, b⟩
    · subst a; cases b
      exact ⟨xs, List.getElem?_set_self (by rw [r.len]; exact hi), upd_same, hg, h0, hm, hl⟩
    · rw [List.getElem?_set_ne a]
      obtain ⟨xs', q1, q2, q3, q4, q5, q6⟩ := r.own j p' e b
      exact ⟨xs', q1, by rw [upd_ne (ne_of_none q2 hp)]; exact q2, q3, q4, q5, q6⟩
  sep := fun j k a b p' n za zb => by
    have no : ∀ {k : Nat} {b : List D}, q[k]? = some (Sl.own p b) → False := fun {k b} e => by
      obtain ⟨xs2, q1, q2, _⟩ := r.own k p b e
      rw [hp] at q2; cases q2
    rcases set_get za with ⟨e1, e2⟩ | ⟨e1, e2⟩
    · subst e1; cases e2
      rcases set_get zb with ⟨e3, e4⟩ | ⟨e3, e4⟩
      · exact n e3
      · exact no e4
    · rcases set_get zb with ⟨e3, e4⟩ | ⟨e3, e4⟩
      · subst e3; cases e4
        exact no e2
      · exact r.sep j k a b p' n e2 e4
  obj := fun p' dx k es z => by
    rcases set_get z with ⟨a, b⟩ | ⟨a, b⟩
    · cases b
    · rw [List.getElem?_set_ne a]
      obtain ⟨xs', q1, q2, q3, q4, q5, q6, q7⟩ := r.obj p' dx k es b
      exact ⟨xs', q1, by rw [upd_ne (ne_of_none q2 hp)]; exact q2, q3, q4, q5, q6, q7⟩
/-- an own list is written -/
theorem Rel.putO (r : Rel K W H0 G H s q) {ds es : List D} {ys : List V} (hi : q[i]? = some (.own p ds)) (hl : IsL K G es ys) :
    Rel K W H0 G (upd H p (.lst ys)) s (q.set i (.own p es)) where
  len := by simp [r.len]
  dat := fun j e z => by
    rcases set_get z with ⟨a, b⟩ | ⟨a, b⟩
    · cases b
    · exact r.dat j e b
  own := fun j p' e z => by
    rcases set_get z with ⟨a, b⟩ | ⟨a, b⟩
    · subst a; cases b
      obtain ⟨xs', q1, q2, q3, q4, q5, q6⟩ := r.own i p ds hi
      exact ⟨ys, q1, upd_same, q3, q4, q5, hl⟩
    · obtain ⟨xs', q1, q2, q3, q4, q5, q6⟩ := r.own j p' e b
      refine ⟨xs', q1, ?_, q3, q4, q5, q6⟩
      rw [upd_ne (show p' ≠ p from fun z => r.sep i j ds e p a hi (by rw [← z]; exact b))]
      exact q2
  sep := fun j k a b p' n za zb => by
    have f : ∀ {j p2 a}, (q.set i (Sl.own p es))[j]? = some (Sl.own p2 a) → ∃ a', q[j]? = some (Sl.own p2 a') := fun {j p2 a} z => by
      rcases set_get z with ⟨e1, e2⟩ | ⟨e1, e2⟩
      · cases e2; exact ⟨ds, e1 ▸ hi⟩
      · exact ⟨a, e2⟩
    obtain ⟨a', ea⟩ := f za
    obtain ⟨b', eb⟩ := f zb
    exact r.sep j k a' b' p' n ea eb
  obj := fun p' dx k es' z => by
    rcases set_get z with ⟨a, b⟩ | ⟨a, b⟩
    · cases b
    · obtain ⟨xs', q1, q2, q3, q4, q5, q6, q7⟩ := r.obj p' dx k es' b
      obtain ⟨ws, _, w2, _⟩ := r.own i p ds hi
      refine ⟨xs', q1, ?_, q3, q4, q5, q6, q7⟩
      rw [upd_ne (show p' ≠ p from fun z => by rw [z, w2] at q2; cases q2)]
      exact q2
/-- an own list is kept for good from here on -/
theorem Rel.keepO (r : Rel K W H0 G H s q) (t : Stp W G0 H0 G H) {ds : List D} (hi : q[i]? = some (.own p ds)) : ∃ G', Ex G G' ∧ Stp W G0 H0 G' H ∧ Rel K W H0 G' H s (q.set i (.dat (.lst ds))) := by
  obtain ⟨xs, q1, q2, q3, q4, q5, q6⟩ := r.own i p ds hi
  have e : Ex G (upd G p (.lst xs)) := Ex.new q3
  have hl : i < q.length := (List.getElem?_eq_some_iff.mp hi).1
  refine ⟨upd G p (.lst xs), e, t.keep q4 q3 q2 q5, ⟨by simp [r.len], fun j d' z => ?_, fun j p' e' z => ?_, fun j k a b p' n za zb => (set_get za).elim (fun ⟨_, b⟩ => by cases b) fun ⟨_, e2⟩ => (set_get zb).elim (fun ⟨_, b⟩ => by cases b) fun ⟨_, e4⟩ => r.sep j k a b p' n e2 e4, fun p' dx k es z => ?_⟩⟩
  · rcases set_get z with ⟨a, b⟩ | ⟨a, b⟩
    · subst a; cases b
      exact ⟨_, q1, p, xs, rfl, upd_same, IsL.mono e ds q6⟩
    · obtain ⟨v, a1, a2⟩ := r.dat j d' b
      exact ⟨v, a1, Is.mono e d' a2⟩
  · rcases set_get z with ⟨a, b⟩ | ⟨a, b⟩
    · cases b
    · obtain ⟨xs', w1, w2, w3, w4, w5, w6⟩ := r.own j p' e' b
      refine ⟨xs', w1, w2, ?_, w4, w5, IsL.mono e e' w6⟩
      rw [upd_ne (show p' ≠ p from fun z => r.sep i j ds e' p a hi (by rw [← z]; exact b))]
      exact w3
  · rcases set_get z with ⟨a, b⟩ | ⟨a, b⟩
    · cases b
    · obtain ⟨xs', w1, w2, w3, w4, w5, w6, w7⟩ := r.obj p' dx k es b
      refine ⟨xs', w1, w2, w3, ?_, w5, w6, IsL.mono e es w7⟩
      rw [upd_ne (show p' ≠ p from fun z => by rw [z, q2] at w2; cases w2)]
      exact w4
/-- the next field of what is being made -/
theorem Rel.putI (r : Rel K W H0 G H s q) {dx : Addr} {k : Nat} {ds : List D} {xs : List V} (hi : q[0]? = some (.obj p dx k ds)) (hx : H p = some (.ins (K.cls k) dx (((K.fld k).take ds.length).zip xs))) (hl : ds.length < (K.fld k).length) (il : IsL K G ds xs) (hv : Is K G d v) :
    Rel K W H0 G (upd H p (.ins (K.cls k) dx (((K.fld k).take (ds.length + 1)).zip (xs ++ [v])))) s (q.set 0 (.obj p dx k (ds ++ [d]))) where
  len := by simp [r.len]
  dat := fun j e z => by
    rcases set_get z with ⟨a, b⟩ | ⟨a, b⟩
    · cases b
    · exact r.dat j e b
  own := fun j p' e z => by
    rcases set_get z with ⟨a, b⟩ | ⟨a, b⟩
    · cases b
    · obtain ⟨xs', q1, q2, q3, q4, q5, q6⟩ := r.own j p' e b
      refine ⟨xs', q1, ?_, q3, q4, q5, q6⟩
      rw [upd_ne (show p' ≠ p from fun z => by rw [z, hx] at q2; cases q2)]
      exact q2
  sep := fun j l a b p' n za zb => (set_get za).elim (fun ⟨_, b⟩ => by cases b) fun ⟨_, e2⟩ => (set_get zb).elim (fun ⟨_, b⟩ => by cases b) fun ⟨_, e4⟩ => r.sep j l a b p' n e2 e4
  obj := fun p' dx' k' es z => by
    rcases set_get z with ⟨a, b⟩ | ⟨a, b⟩
    · cases b
      obtain ⟨_, q1, _, _, q4, q5, q6, _⟩ := r.obj p dx k ds hi
      have e : (ds ++ [d]).length = ds.length + 1 := by simp
      exact ⟨xs ++ [v], q1, by rw [upd_same, e], by rw [e]; exact hl, q4, q5, q6, IsL.app il (IsL.one hv)⟩
    · exact absurd rfl a
end
structure Cn where
  K : KT
  W : Wd
  G0 : Hp
  H0 : Hp
  /-- whether what it gives back is a list that nobody else holds -/
  fr : Bool
abbrev Cn.S (c : Cn) (G H : Hp) : Prop := Stp c.W c.G0 c.H0 G H
abbrev Cn.R (c : Cn) (G H : Hp) (s : L2.St) (q : List Sl) : Prop := Rel c.K c.W c.H0 G H s q
def wpE (c : Cn) (te : TE) (q : List Sl) (P : D → Prop) : Prop :=
  ∀ G H s, c.S G H → c.R G H s q → ∀ Q : VK, (∀ G' H' v d, P d → Stp c.W G H G' H' → Is c.K G' d v → Q v H') → te s H Q
def wpT (c : Cn) (tt : TT) (q : List Sl) (P : Bool → Prop) : Prop :=
  ∀ G H s, c.S G H → c.R G H s q → ∀ Q : Bool → Hp → Prop, (∀ G' H' b, P b → Stp c.W G H G' H' → Q b H') → tt s H Q
def wpA (c : Cn) (ta : TA) (q : List Sl) (P : List D → Prop) : Prop :=
  ∀ G H s, c.S G H → c.R G H s q → ∀ Q : List V → Hp → Prop, (∀ G' H' vs ds, P ds → Stp c.W G H G' H' → IsL c.K G' ds vs → Q vs H') → ta s H Q
def wpO (c : Cn) (to : TO) (q : List Sl) (P : Option Int → Prop) : Prop :=
  ∀ G H s, c.S G H → c.R G H s q → ∀ Q : Option Int → Hp → Prop, (∀ G' H' o, P o → Stp c.W G H G' H' → Q o H') → to s H Q
/-- what is given back -/
def IsR (c : Cn) (G H : Hp) (d : D) (v : V) : Prop := match c.fr with
  | false => Is c.K G d v
  | true => (∃ a ds xs, v = .ref a ∧ d = .lst ds ∧ H a = some (.lst xs) ∧ G a = none ∧ c.H0 a = none ∧ ¬ c.W.M a ∧ IsL c.K G ds xs) ∨ ∃ l, d = .tup l ∧ Is c.K G d v
theorem IsR.of {c : Cn} {G H : Hp} {d : D} {v : V} (h : c.fr = false) (i : Is c.K G d v) : IsR c G H d v := by
  unfold IsR; rw [h]; exact i
theorem IsR.ofT {c : Cn} {G H : Hp} {d : D} {v : V} (h : c.fr = false ∨ ∃ l, d = .tup l) (i : Is c.K G d v) : IsR c G H d v := by
  unfold IsR
  cases e : c.fr with
  | false => exact i
  | true => exact .inr (h.elim (fun z => by rw [e] at z; cases z) fun ⟨l, z⟩ => ⟨l, z, i⟩)
structure Fn where
  nx : List Sl → Prop
  rt : List Sl → D → Prop
  bk : List Sl → Prop := fun _ => False
  ct : List Sl → Prop := fun _ => False
structure Post (c : Cn) (D' : Ends) (F : Fn) (G : Hp) : Prop where
  nx : ∀ s' H' G' q', F.nx q' → Ex G G' → c.S G' H' → c.R G' H' s' q' → D'.nx s' H'
  rt : ∀ v H' G' d s' q', F.rt q' d → Ex G G' → c.S G' H' → IsR c G' H' d v → c.R G' H' s' q' → D'.rt v H'
  bk : ∀ s' H' G' q', F.bk q' → Ex G G' → c.S G' H' → c.R G' H' s' q' → D'.bk s' H'
  ct : ∀ s' H' G' q', F.ct q' → Ex G G' → c.S G' H' → c.R G' H' s' q' → D'.ct s' H'
def wpS (c : Cn) (ts : TS) (q : List Sl) (F : Fn) : Prop :=
  ∀ (D' : Ends) s G H, c.S G H → c.R G H s q → Post c D' F G → ts D' s H
def wpG (c : Cn) (g : TG) (d : D) (q : List Sl) (N : List Sl → Prop) : Prop :=
  ∀ G H s v, c.S G H → c.R G H s q → Is c.K G d v → ∀ Q : L2.St → Hp → Prop, (∀ s' H' G' q', N q' → Ex G G' → c.S G' H' → c.R G' H' s' q' → Q s' H') → g v s H Q
def wpGs (c : Cn) (g : TGs) (ds : List D) (q : List Sl) (N : List Sl → Prop) : Prop :=
  ∀ G H s vs, c.S G H → c.R G H s q → IsL c.K G ds vs → ∀ Q : L2.St → Hp → Prop, (∀ s' H' G' q', N q' → Ex G G' → c.S G' H' → c.R G' H' s' q' → Q s' H') → g vs s H Q
/-- an operation upon two values, upon one, upon some -/
def opD (c : Cn) (r : R2) (x y : D) (P : D → Prop) : Prop :=
  ∀ G H vx vy, Ok c.W G H → Is c.K G x vx → Is c.K G y vy → ∀ Q : VK, (∀ G' H' v d, P d → Stp c.W G H G' H' → Is c.K G' d v → Q v H') → r vx vy H Q
def unD (c : Cn) (r : V → Hp → VK → Prop) (x : D) (P : D → Prop) : Prop :=
  ∀ G H vx, Ok c.W G H → Is c.K G x vx → ∀ Q : VK, (∀ G' H' v d, P d → Stp c.W G H G' H' → Is c.K G' d v → Q v H') → r vx H Q
def cbD (c : Cn) (r : List V → Hp → VK → Prop) (ds : List D) (P : D → Prop) : Prop :=
  ∀ G H vs, Ok c.W G H → IsL c.K G ds vs → ∀ Q : VK, (∀ G' H' v d, P d → Stp c.W G H G' H' → Is c.K G' d v → Q v H') → r vs H Q
section
variable {c : Cn} {q : List Sl} {P : D → Prop} {ta tb te : TE} {t u : TT}
theorem wp_var {i : Nat} {d : D} (h : q[i]? = some (.dat d)) (k : P d) : wpE c (tVar i) q P := fun G H s S R Q hq =>
  let ⟨v, e, h1⟩ := R.dat i d h
  ⟨v, e, hq G H v d k (Stp.refl S.ok) h1⟩
theorem wp_int {i : Int} (k : P (.int i)) : wpE c (tC (.int i)) q P := fun G H s S R Q hq => hq G H _ _ k (Stp.refl S.ok) rfl
theorem wp_bl {b : Bool} (k : P (.bl b)) : wpE c (tC (.bl b)) q P := fun G H s S R Q hq => hq G H _ _ k (Stp.refl S.ok) rfl
theorem wp_str {x : Str} (k : P (.str x)) : wpE c (tC (.str x)) q P := fun G H s S R Q hq => hq G H _ _ k (Stp.refl S.ok) rfl
theorem wp_ty {n : String} (k : P (.ty n)) : wpE c (tC (.ty n)) q P := fun G H s S R Q hq => hq G H _ _ k (Stp.refl S.ok) rfl
theorem wp_non (k : P .non) : wpE c (tC .non) q P := fun G H s S R Q hq => hq G H _ _ k (Stp.refl S.ok) rfl
theorem wp_ref {a : Addr} {d : D} (h : ∀ G, Is c.K G d (.ref a)) (k : P d) : wpE c (tC (.ref a)) q P := fun G H s S R Q hq => hq G H _ _ k (Stp.refl S.ok) (h G)
theorem wp_op {r : R2} (h : wpE c ta q fun x => wpE c tb q fun y => opD c r x y P) : wpE c (tOp r ta tb) q P := fun G H s S R Q hq =>
  h G H s S R _ fun G1 H1 vx x h1 T1 i1 => h1 G1 H1 s (S.trans T1) (R.step T1) _ fun G2 H2 vy y h2 T2 i2 =>
    h2 G2 H2 vx vy T2.ok (Is.mono T2.ex x i1) i2 Q fun G3 H3 v d p T3 i3 => hq G3 H3 v d p ((T1.trans T2).trans T3) i3
theorem wp_un {r : V → Hp → VK → Prop} (h : wpE c ta q fun x => unD c r x P) : wpE c (tUn r ta) q P := fun G H s S R Q hq =>
  h G H s S R _ fun G1 H1 vx x h1 T1 i1 => h1 G1 H1 vx T1.ok i1 Q fun G3 H3 v d p T3 i3 => hq G3 H3 v d p (T1.trans T3) i3
theorem wp_if (h : wpT c t q fun b => (b = true → wpE c ta q P) ∧ (b = false → wpE c tb q P)) : wpE c (tIf t ta tb) q P := fun G H s S R Q hq =>
  h G H s S R _ fun G1 H1 b h1 T1 => by
    cases b with
    | true => exact h1.1 rfl G1 H1 s (S.trans T1) (R.step T1) Q fun G2 H2 v d p T2 i => hq G2 H2 v d p (T1.trans T2) i
    | false => exact h1.2 rfl G1 H1 s (S.trans T1) (R.step T1) Q fun G2 H2 v d p T2 i => hq G2 H2 v d p (T1.trans T2) i
theorem wp_andV (h : wpE c ta q fun x => ∃ b, x = .bl b ∧ (b = true → wpE c tb q P) ∧ (b = false → P (.bl false))) : wpE c (tAndV ta tb) q P := fun G H s S R Q hq =>
  h G H s S R _ fun G1 H1 v x h1 T1 i1 => by
    obtain ⟨b, rfl, h2, h3⟩ := h1
    refine ⟨b, i1, ?_⟩
    cases b with
    | true => exact h2 rfl G1 H1 s (S.trans T1) (R.step T1) Q fun G2 H2 v d p T2 i => hq G2 H2 v d p (T1.trans T2) i
    | false => exact hq G1 H1 _ _ (h3 rfl) T1 rfl
theorem wp_orV (h : wpE c ta q fun x => ∃ b, x = .bl b ∧ (b = false → wpE c tb q P) ∧ (b = true → P (.bl true))) : wpE c (tOrV ta tb) q P := fun G H s S R Q hq =>
  h G H s S R _ fun G1 H1 v x h1 T1 i1 => by
    obtain ⟨b, rfl, h2, h3⟩ := h1
    refine ⟨b, i1, ?_⟩
    cases b with
    | false => exact h2 rfl G1 H1 s (S.trans T1) (R.step T1) Q fun G2 H2 v d p T2 i => hq G2 H2 v d p (T1.trans T2) i
    | true => exact hq G1 H1 _ _ (h3 rfl) T1 rfl
theorem wp_notV (h : wpE c ta q fun x => ∃ b, x = .bl b ∧ P (.bl (!b))) : wpE c (tNotV ta) q P := fun G H s S R Q hq =>
  h G H s S R _ fun G1 H1 v x h1 T1 i1 => by
    obtain ⟨b, rfl, h2⟩ := h1
    exact ⟨b, i1, hq G1 H1 _ _ h2 T1 rfl⟩
def D.isNon : D → Bool
  | .non => true
  | _ => false
theorem Is.non {K : KT} {G : Hp} : ∀ {d : D} {v : V}, Is K G d v → decide (v = .non) = d.isNon
  | .non, _, h => by cases (show _ = V.non from h); rfl
  | .bl _, _, h => by cases (show _ = V.bl _ from h); rfl
  | .int _, _, h => by cases (show _ = V.int _ from h); rfl
  | .str _, _, h => by cases (show _ = V.str _ from h); rfl
  | .adr _, _, h => by cases (show _ = V.ref _ from h); rfl
  | .ty _, _, h => by cases (show _ = V.ty _ from h); rfl
  | .tup ds, _, ⟨a, xs, p, _⟩ => by rw [p]; rfl
  | .lst ds, _, ⟨a, xs, p, _⟩ => by rw [p]; rfl
  | .ins _ _, _, ⟨a, dx, xs, p, _⟩ => by rw [p]; rfl
  | .fn _, _, h => by cases (show _ = V.ref _ from h); rfl
  | .cls _, _, h => by cases (show _ = V.ref _ from h); rfl
  | .hand, _, h => by cases (show _ = V.ref _ from h); rfl
  | .exc _ _ _ _ _, _, ⟨xs, p, _⟩ => by rw [p]; rfl
  | .scr _, _, ⟨a, xs, p, _⟩ => by rw [p]; rfl
theorem wp_isN (h : wpE c ta q fun x => P (.bl x.isNon)) : wpE c (tIsN ta) q P := fun G H s S R Q hq =>
  h G H s S R _ fun G1 H1 v x h1 T1 i1 => by rw [Is.non i1]; exact hq G1 H1 _ _ h1 T1 rfl
theorem wp_notN (h : wpE c ta q fun x => P (.bl (!x.isNon))) : wpE c (tNotN ta) q P := fun G H s S R Q hq =>
  h G H s S R _ fun G1 H1 v x h1 T1 i1 => by rw [Is.non i1]; exact hq G1 H1 _ _ h1 T1 rfl
theorem wp_nil {P : List D → Prop} (h : P []) : wpA c tNil q P := fun G H s S R Q hq => hq G H [] [] h (Stp.refl S.ok) rfl
theorem wp_cons {P : List D → Prop} {tr : TA} (h : wpE c ta q fun x => wpA c tr q fun xs => P (x :: xs)) : wpA c (tCons ta tr) q P := fun G H s S R Q hq =>
  h G H s S R _ fun G1 H1 v x h1 T1 i1 => h1 G1 H1 s (S.trans T1) (R.step T1) _ fun G2 H2 vs xs h2 T2 i2 =>
    hq G2 H2 _ _ h2 (T1.trans T2) ⟨v, vs, rfl, Is.mono T2.ex x i1, i2⟩
theorem none_of_sub {G H : Hp} (e : Ex G H) {p : Addr} (h : H p = none) : G p = none := none_of_th (fun a o z => ⟨o, e a o z⟩) h
theorem wp_tup {ta : TA} (h : wpA c ta q fun xs => xs.length ≤ 10000 ∧ P (.tup xs)) : wpE c (tTup ta) q P := fun G H s S R Q hq =>
  h G H s S R _ fun G1 H1 vs xs h1 T1 i1 => by
    refine ⟨by rw [IsL.len i1]; exact Nat.le_trans h1.1 (by decide), fun p hp => ?_⟩
    exact hq (upd G1 p (.tup vs)) _ _ _ h1.2 (T1.lay hp) ⟨p, vs, rfl, .inl upd_same, IsL.mono (Ex.new (none_of_sub T1.ok.sub hp)) xs i1⟩
theorem wp_lst {ta : TA} (h : wpA c ta q fun xs => xs.length ≤ 10000 ∧ P (.lst xs)) : wpE c (tLst ta) q P := fun G H s S R Q hq =>
  h G H s S R _ fun G1 H1 vs xs h1 T1 i1 => by
    refine ⟨by rw [IsL.len i1]; exact Nat.le_trans h1.1 (by decide), fun p hp => ?_⟩
    exact hq (upd G1 p (.lst vs)) _ _ _ h1.2 (T1.lay hp) ⟨p, vs, rfl, upd_same, IsL.mono (Ex.new (none_of_sub T1.ok.sub hp)) xs i1⟩
theorem wp_cb {r : List V → Hp → VK → Prop} {ta : TA} (h : wpA c ta q fun xs => cbD c r xs P) : wpE c (tCB r ta) q P := fun G H s S R Q hq =>
  h G H s S R _ fun G1 H1 vs xs h1 T1 i1 => h1 G1 H1 vs T1.ok i1 Q fun G3 H3 v d p T3 i3 => hq G3 H3 v d p (T1.trans T3) i3
theorem wp_mono {P' : D → Prop} (h : wpE c te q P) (k : ∀ d, P d → P' d) : wpE c te q P' := fun G H s S R Q hq => h G H s S R Q fun G' H' v d p => hq G' H' v d (k d p)
variable {B : Bool → Prop}
theorem wt_test (h : wpE c ta q fun x => ∃ b, x = .bl b ∧ B b) : wpT c (tTest ta) q B := fun G H s S R Q hq =>
  h G H s S R _ fun G1 H1 v x h1 T1 i1 => by
    obtain ⟨b, rfl, h2⟩ := h1
    exact ⟨b, i1, hq G1 H1 b h2 T1⟩
theorem wt_B (h : wpE c ta q fun x => ∃ b, x = .bl b ∧ B b) : wpT c (tB ta) q B := fun G H s S R Q hq =>
  h G H s S R _ fun G1 H1 v x h1 T1 i1 => by
    obtain ⟨b, rfl, h2⟩ := h1
    exact ⟨b, i1, hq G1 H1 b h2 T1⟩
theorem wt_and (h : wpT c t q fun a => (a = true → wpT c u q B) ∧ (a = false → B false)) : wpT c (tAnd t u) q B := fun G H s S R Q hq =>
  h G H s S R _ fun G1 H1 b h1 T1 => by
    cases b with
    | true => exact h1.1 rfl G1 H1 s (S.trans T1) (R.step T1) Q fun G2 H2 b p T2 => hq G2 H2 b p (T1.trans T2)
    | false => exact hq G1 H1 false (h1.2 rfl) T1
theorem wt_or (h : wpT c t q fun a => (a = false → wpT c u q B) ∧ (a = true → B true)) : wpT c (tOr t u) q B := fun G H s S R Q hq =>
  h G H s S R _ fun G1 H1 b h1 T1 => by
    cases b with
    | false => exact h1.1 rfl G1 H1 s (S.trans T1) (R.step T1) Q fun G2 H2 b p T2 => hq G2 H2 b p (T1.trans T2)
    | true => exact hq G1 H1 true (h1.2 rfl) T1
theorem wt_not (h : wpT c t q fun a => B (!a)) : wpT c (tNot t) q B := fun G H s S R Q hq =>
  h G H s S R _ fun G1 H1 b h1 T1 => hq G1 H1 _ h1 T1
variable {F : Fn} {ts tu tw : TS} {g : TG}
theorem Post.more {D' : Ends} {G G' : Hp} (p : Post c D' F G) (e : Ex G G') : Post c D' F G' :=
  ⟨fun s H G1 q a b => p.nx s H G1 q a (e.trans b), fun v H G1 d s' q' a b => p.rt v H G1 d s' q' a (e.trans b), fun s H G1 q a b => p.bk s H G1 q a (e.trans b), fun s H G1 q a b => p.ct s H G1 q a (e.trans b)⟩
theorem ws_seq (h : wpS c ts q { F with nx := fun q' => wpS c tu q' F }) : wpS c (tSeq ts tu) q F := fun D' s G H S R p =>
  h { D' with nx := tu D' } s G H S R ⟨fun s' H' G' q' a b S' R' => a D' s' G' H' S' R' (p.more b), p.rt, p.bk, p.ct⟩
theorem ws_next (h : F.nx q) : wpS c tNext q F := fun D' s G H S R p => p.nx s H G q h (Ex.refl G) S R
theorem ws_brk (h : F.bk q) : wpS c tBreak q F := fun D' s G H S R p => p.bk s H G q h (Ex.refl G) S R
theorem ws_cont (h : F.ct q) : wpS c tCont q F := fun D' s G H S R p => p.ct s H G q h (Ex.refl G) S R
theorem ws_asg (h : wpE c te q fun d => wpG c g d q F.nx) : wpS c (tAsg te g) q F := fun D' s G H S R p =>
  h G H s S R _ fun G1 H1 v d h1 T1 i1 => h1 G1 H1 s v (S.trans T1) (R.step T1) i1 _ fun s' H' G' q' a b => p.nx s' H' G' q' a (T1.ex.trans b)
theorem ws_retQ (h : wpE c te q fun d => c.fr = false ∧ F.rt q d) : wpS c (tRet te) q F := fun D' s G H S R p =>
  h G H s S R _ fun G1 H1 v d h1 T1 i1 => p.rt v H1 G1 d s q h1.2 T1.ex (S.trans T1) (.of h1.1 i1) (R.step T1)
theorem ws_retT (h : wpE c te q fun d => (c.fr = false ∨ ∃ l, d = .tup l) ∧ F.rt q d) : wpS c (tRet te) q F := fun D' s G H S R p =>
  h G H s S R _ fun G1 H1 v d h1 T1 i1 => p.rt v H1 G1 d s q h1.2 T1.ex (S.trans T1) (.ofT h1.1 i1) (R.step T1)
theorem ws_retX {tt : TT} {ta tb : TE} (h : wpT c tt q fun b => (b = true → wpS c (tRet ta) q F) ∧ (b = false → wpS c (tRet tb) q F)) : wpS c (tRet (tIf tt ta tb)) q F := fun D' s G H S R p =>
  h G H s S R _ fun G1 H1 b h1 T1 => by
    cases b with
    | true => exact h1.1 rfl D' s G1 H1 (S.trans T1) (R.step T1) (p.more T1.ex)
    | false => exact h1.2 rfl D' s G1 H1 (S.trans T1) (R.step T1) (p.more T1.ex)
theorem ws_ret (h : wpE c te q (F.rt q)) (hf : c.fr = false := by rfl) : wpS c (tRet te) q F := ws_retQ (wp_mono h fun d z => ⟨hf, z⟩)
theorem ws_retN (h : F.rt q .non) (hf : c.fr = false := by rfl) : wpS c tRetN q F := fun D' s G H S R p => p.rt .non H G .non s q h (Ex.refl G) S (.of hf rfl) R
/-- an own list is given back, and nobody else holds it -/
theorem ws_retL (hf : c.fr = true) {i : Nat} {a : Addr} {ds : List D} (hi : q[i]? = some (.own a ds)) (h : F.rt q (.lst ds)) : wpS c (tRet (tVar i)) q F := fun D' s G H S R p => by
  obtain ⟨xs, e1, e2, e3, e4, e5, e6⟩ := R.own i a ds hi
  exact ⟨_, e1, p.rt (.ref a) H G (.lst ds) s q h (Ex.refl G) S (by unfold IsR; rw [hf]; exact .inl ⟨a, ds, xs, rfl, rfl, e2, e3, e4, e5, e6⟩) R⟩
theorem ws_drop (h : wpE c te q fun _ => F.nx q) : wpS c (tDrop te) q F := fun D' s G H S R p =>
  h G H s S R _ fun G1 H1 v d h1 T1 i1 => p.nx s H1 G1 q h1 T1.ex (S.trans T1) (R.step T1)
theorem ws_if (h : wpT c t q fun b => (b = true → wpS c ts q F) ∧ (b = false → wpS c tu q F)) : wpS c (tIfS t ts tu) q F := fun D' s G H S R p =>
  h G H s S R _ fun G1 H1 b h1 T1 => by
    cases b with
    | true => exact h1.1 rfl D' s G1 H1 (S.trans T1) (R.step T1) (p.more T1.ex)
    | false => exact h1.2 rfl D' s G1 H1 (S.trans T1) (R.step T1) (p.more T1.ex)
theorem ws_keep {i : Nat} {a : Addr} {ds : List D} (hi : q[i]? = some (.own a ds)) (h : wpS c ts (q.set i (.dat (.lst ds))) F) : wpS c ts q F := fun D' s G H S R p => by
  obtain ⟨G', e, S', R'⟩ := R.keepO S hi
  exact h D' s G' H S' R' (p.more e)
theorem wg_name {i : Nat} {d : D} {N : List Sl → Prop} (hi : i < q.length) (h : N (q.set i (.dat d))) : wpG c (gName i) d q N := fun G H s v S R hv Q hq =>
  hq _ _ G _ h (Ex.refl G) S (R.setD hv hi)
theorem wg_nil {N : List Sl → Prop} (h : N q) : wpGs c gNil [] q N := fun G H s vs S R hv Q hq => ⟨hv, hq _ _ G _ h (Ex.refl G) S R⟩
theorem wg_cons {gs : TGs} {d : D} {ds : List D} {N : List Sl → Prop} (h : wpG c g d q fun q' => wpGs c gs ds q' N) : wpGs c (gCons g gs) (d :: ds) q N := fun G H s vs S R hv Q hq => by
  obtain ⟨x, r, rfl, h1, h2⟩ := hv
  exact ⟨x, r, rfl, h G H s x S R h1 _ fun s' H' G' q' a e S' R' => a G' H' s' r S' R' (IsL.mono e ds h2) Q fun s2 H2 G2 q2 b e2 => hq s2 H2 G2 q2 b (e.trans e2)⟩
theorem wg_tup {gs : TGs} {n : Nat} {ds : List D} {N : List Sl → Prop} (hn : ds.length = n) (h : wpGs c gs ds q N) : wpG c (gTup c.K n gs) (.tup ds) q N := fun G H s v S R hv Q hq => by
  obtain ⟨a, xs, rfl, h1, h2⟩ := hv
  exact ⟨a, xs, rfl, h1.sq S.ok.sub, by rw [IsL.len h2, hn], h G H s xs S R h2 Q hq⟩
end
end Ez
set_option Elab.async false
set_option linter.all false
set_option maxRecDepth 100000
namespace Ez
open L2 PySem PyProof.Rows PySem.Spec
mutual
def D.py : D → PyData
  | .bl b => .bool b
  | .int i => .int i
  | .str x => .str x
  | .tup l => .tuple (D.pyL l)
  | .lst l => .list (D.pyL l)
  | _ => .none
def D.pyL : List D → List PyData
  | [] => []
  | d :: r => D.py d :: D.pyL r
end
mutual
/-- data of numbers, texts, tuples, lists alone -/
def D.pur : D → Bool
  | .non => true
  | .bl _ => true
  | .int _ => true
  | .str x => PySem.PyData.strOk x
  | .tup l => D.purL l
  | .lst l => D.purL l
  | _ => false
def D.purL : List D → Bool
  | [] => true
  | d :: r => D.pur d && D.purL r
end
mutual
def D.dep : D → Nat
  | .tup l => D.depL l + 1
  | .lst l => D.depL l + 1
  | _ => 0
def D.depL : List D → Nat
  | [] => 0
  | d :: r => max (D.dep d) (D.depL r)
end
section
variable {K : KT} {G H : Hp}
mutual
theorem Is.dp (e : Ex G H) : ∀ (d : D) {v : V}, D.pur d = true → Is K G d v → L2.Dp K H v d.py
  | .non, _, _, h => by cases (show _ = V.non from h); exact .non
  | .bl b, _, _, h => by cases (show _ = V.bl b from h); exact .bl b
  | .int b, _, _, h => by cases (show _ = V.int b from h); exact .int b
  | .str b, _, _, h => by cases (show _ = V.str b from h); exact .str b
  | .tup ds, _, p, ⟨a, xs, e1, h1, h2⟩ => by
    rw [e1]; exact .tup (h1.sq e) (IsL.dp e ds p h2)
  | .lst ds, _, p, ⟨a, xs, e1, h1, h2⟩ => by
    rw [e1]; exact .lst (h1.sq e) (IsL.dp e ds p h2)
  | .ins _ _, _, p, _ => by cases p
  | .fn _, _, p, _ => by cases p
  | .cls _, _, p, _ => by cases p
  | .hand, _, p, _ => by cases p
  | .adr _, _, p, _ => by cases p
  | .ty _, _, p, _ => by cases p
  | .exc _ _ _ _ _, _, p, _ => by cases p
theorem IsL.dp (e : Ex G H) : ∀ (ds : List D) {xs : List V}, D.purL ds = true → IsL K G ds xs → L2.DpAll K H xs (D.pyL ds)
  | [], _, _, h => by cases (show _ = [] from h); exact .nil
  | d :: ds, _, p, ⟨x, r, e1, h1, h2⟩ => by
    have q := Bool.and_eq_true_iff.mp (show (D.pur d && D.purL ds) = true from p)
    rw [e1]; exact .cons (Is.dp e d q.1 h1) (IsL.dp e ds q.2 h2)
end
mutual
theorem D.lay : ∀ (d : D), D.pur d = true → d.py.canLay0 = true
  | .non, _ => rfl
  | .bl b, _ => rfl
  | .int b, _ => rfl
  | .str b, p => p
  | .tup ds, p => D.layL ds p
  | .lst ds, p => D.layL ds p
  | .ins _ _, p => by cases p
  | .fn _, p => by cases p
  | .cls _, p => by cases p
  | .hand, p => by cases p
  | .adr _, p => by cases p
  | .ty _, p => by cases p
  | .exc _ _ _ _ _, p => by cases p
theorem D.layL : ∀ (ds : List D), D.purL ds = true → PyData.canLayAll0 (D.pyL ds) = true
  | [], _ => rfl
  | d :: ds, p => by
    have q := Bool.and_eq_true_iff.mp (show (D.pur d && D.purL ds) = true from p)
    show (d.py.canLay0 && PyData.canLayAll0 (D.pyL ds)) = true
    rw [D.lay d q.1, D.layL ds q.2]; rfl
end
mutual
theorem D.deq : ∀ (d : D), d.py.depth = d.dep
  | .non => rfl
  | .bl b => rfl
  | .int b => rfl
  | .str b => rfl
  | .tup ds => congrArg (· + 1) (D.deqL ds)
  | .lst ds => congrArg (· + 1) (D.deqL ds)
  | .ins _ _ => rfl
  | .fn _ => rfl
  | .cls _ => rfl
  | .hand => rfl
  | .adr _ => rfl
  | .ty _ => rfl
  | .exc _ _ _ _ _ => rfl
  | .scr _ => rfl
theorem D.deqL : ∀ (ds : List D), PyData.depthAll (D.pyL ds) = D.depL ds
  | [] => rfl
  | d :: ds => by
    show max d.py.depth (PyData.depthAll (D.pyL ds)) = max d.dep (D.depL ds)
    rw [D.deq d, D.deqL ds]
end
/-- what == may be asked of -/
def D.cmp (d : D) : Bool := D.pur d && decide (d.dep ≤ 64)
theorem D.shp {d : D} (h : D.cmp d = true) : SeqAt.shaped d.py = true := by
  have q := Bool.and_eq_true_iff.mp h
  show (d.py.canLay0 && decide (d.py.depth ≤ 64)) = true
  rw [D.lay d q.1, D.deq d, q.2]; rfl
def D.eqv (x y : D) : Bool := PyData.eqv x.py y.py
end
section
variable {c : Cn} {q : List Sl} {P : D → Prop} {ta tb te : TE} {t u : TT}
theorem od_eq {x y : D} (hx : D.cmp x = true) (hy : D.cmp y = true) (k : P (.bl (D.eqv x y))) : opD c (rEqD c.K) x y P := fun G H vx vy o i j Q hq =>
  ⟨x.py, y.py, Is.dp o.sub x (Bool.and_eq_true_iff.mp hx).1 i, Is.dp o.sub y (Bool.and_eq_true_iff.mp hy).1 j, D.shp hx, D.shp hy, hq G H _ _ k (Stp.refl o) rfl⟩
theorem od_ne {x y : D} (hx : D.cmp x = true) (hy : D.cmp y = true) (k : P (.bl (!D.eqv x y))) : opD c (rNeD c.K) x y P := fun G H vx vy o i j Q hq =>
  ⟨x.py, y.py, Is.dp o.sub x (Bool.and_eq_true_iff.mp hx).1 i, Is.dp o.sub y (Bool.and_eq_true_iff.mp hy).1 j, D.shp hx, D.shp hy, hq G H _ _ k (Stp.refl o) rfl⟩
theorem od_i {f : Int → Int → Int} {i j : Int} (k : P (.int (f i j))) : opD c (rI0 fun i j => .int (f i j)) (.int i) (.int j) P := fun G H vx vy o a b Q hq => by
  cases (show vx = V.int i from a); cases (show vy = V.int j from b)
  exact ⟨i, j, rfl, rfl, hq G H _ _ k (Stp.refl o) rfl⟩
theorem od_b {f : Int → Int → Bool} {i j : Int} (k : P (.bl (f i j))) : opD c (rI0 fun i j => .bl (f i j)) (.int i) (.int j) P := fun G H vx vy o a b Q hq => by
  cases (show vx = V.int i from a); cases (show vy = V.int j from b)
  exact ⟨i, j, rfl, rfl, hq G H _ _ k (Stp.refl o) rfl⟩
theorem od_ci {C : Int → Int → Prop} {f : Int → Int → Int} {i j : Int} (h : C i j) (k : P (.int (f i j))) : opD c (rI C fun i j => .int (f i j)) (.int i) (.int j) P := fun G H vx vy o a b Q hq => by
  cases (show vx = V.int i from a); cases (show vy = V.int j from b)
  exact ⟨i, j, rfl, rfl, h, hq G H _ _ k (Stp.refl o) rfl⟩
theorem atI_is {K : KT} {G : Hp} {ds : List D} {xs : List V} (h : IsL K G ds xs) {i : Int} {d : D} (e : atI ds i = some d) : ∃ x, atI xs i = some x ∧ Is K G d x := by
  unfold atI at e ⊢
  rw [IsL.len h]
  cases z : ixN ds.length i with
  | none => rw [z] at e; cases e
  | some j =>
    rw [z] at e
    exact IsL.get h e
theorem od_ixT {ds : List D} {i : Int} {d : D} (e : atI ds i = some d) (k : P d) : opD c (rIx c.K) (.tup ds) (.int i) P := fun G H vx vy o a b Q hq => by
  obtain ⟨p, xs, rfl, h1, h2⟩ := a
  cases (show vy = V.int i from b)
  obtain ⟨x, e2, h3⟩ := atI_is h2 e
  exact .inr (.inl ⟨p, xs, i, x, rfl, rfl, h1.sq o.sub, e2, hq G H _ d k (Stp.refl o) h3⟩)
theorem od_ixL {ds : List D} {i : Int} {d : D} (e : atI ds i = some d) (k : P d) : opD c (rIx c.K) (.lst ds) (.int i) P := fun G H vx vy o a b Q hq => by
  obtain ⟨p, xs, rfl, h1, h2⟩ := a
  cases (show vy = V.int i from b)
  obtain ⟨x, e2, h3⟩ := atI_is h2 e
  exact .inl ⟨p, xs, i, x, rfl, rfl, h1.sq o.sub, e2, hq G H _ d k (Stp.refl o) h3⟩
theorem IsL.isNil {K : KT} {G : Hp} {ds : List D} {xs : List V} (h : IsL K G ds xs) : xs = [] ↔ ds = [] := by
  have := IsL.len h
  constructor
  · intro e; rw [e] at this; exact List.length_eq_zero_iff.mp this.symm
  · intro e; rw [e] at this; exact List.length_eq_zero_iff.mp this
theorem od_catL {ds es : List D} (hl : ds.length + es.length ≤ 10000) (k : P (.lst (ds ++ es))) : opD c rCat (.lst ds) (.lst es) P := fun G H vx vy o a b Q hq => by
  obtain ⟨p, xs, rfl, h1, h2⟩ := a
  obtain ⟨p', ys, rfl, h3, h4⟩ := b
  refine ⟨p, p', xs, ys, rfl, rfl, o.sub _ _ h1, o.sub _ _ h3, by rw [IsL.len h2, IsL.len h4]; exact Nat.le_trans hl (by decide), fun n hn => ?_⟩
  exact hq _ _ _ _ k ((Stp.refl o).lay hn) ⟨n, _, rfl, upd_same, IsL.mono (Ex.new (none_of_sub o.sub hn)) _ (IsL.app h2 h4)⟩
theorem od_catT {ds es : List D} (hl : ds.length + es.length ≤ 10000) (k : P (.tup (ds ++ es))) : opD c (rCatA c.K) (.tup ds) (.tup es) P := fun G H vx vy o a b Q hq => by
  obtain ⟨p, xs, rfl, h1, h2⟩ := a
  obtain ⟨p', ys, rfl, h3, h4⟩ := b
  refine ⟨p, p', xs, ys, rfl, rfl, h1.sq o.sub, h3.sq o.sub, by rw [IsL.len h2, IsL.len h4]; exact Nat.le_trans hl (by decide), fun e => ?_, fun e1 e2 => ?_, fun e1 e2 n hn => ?_⟩
  · refine hq G H _ _ k (Stp.refl o) ⟨p', ys, rfl, h3, ?_⟩
    rw [(IsL.isNil h2).mp e]; exact h4
  · refine hq G H _ _ k (Stp.refl o) ⟨p, xs, rfl, h1, ?_⟩
    rw [(IsL.isNil h4).mp e2, List.append_nil]; exact h2
  · exact hq _ _ _ _ k ((Stp.refl o).lay hn) ⟨n, _, rfl, .inl upd_same, IsL.mono (Ex.new (none_of_sub o.sub hn)) _ (IsL.app h2 h4)⟩
theorem ud_neg {f : Int → Int} {i : Int} (k : P (.int (f i))) : unD c (rU fun i => .int (f i)) (.int i) P := fun G H vx o a Q hq => by
  cases (show vx = V.int i from a)
  exact ⟨i, rfl, hq G H _ _ k (Stp.refl o) rfl⟩
theorem IsL.one_of {K : KT} {G : Hp} {d : D} {vs : List V} (h : IsL K G [d] vs) : ∃ v, vs = [v] ∧ Is K G d v := by
  obtain ⟨x, r, rfl, h1, h2⟩ := h
  cases (show r = [] from h2)
  exact ⟨x, rfl, h1⟩
theorem IsL.two_of {K : KT} {G : Hp} {d e : D} {vs : List V} (h : IsL K G [d, e] vs) : ∃ v w, vs = [v, w] ∧ Is K G d v ∧ Is K G e w := by
  obtain ⟨x, r, rfl, h1, h2⟩ := h
  obtain ⟨y, rfl, h3⟩ := IsL.one_of h2
  exact ⟨x, y, rfl, h1, h3⟩
theorem cb_lenT {ds : List D} (k : P (.int ds.length)) : cbD c (fun zs H Q => ∃ p ys, zs = [.ref p] ∧ (SqL c.K H p ys ∨ SqT c.K H p ys) ∧ Q (.int ys.length) H) [.tup ds] P := fun G H vs o a Q hq => by
  obtain ⟨v, rfl, p, xs, rfl, h1, h2⟩ := IsL.one_of a
  refine ⟨p, xs, rfl, .inr (h1.sq o.sub), ?_⟩
  rw [IsL.len h2]; exact hq G H _ _ k (Stp.refl o) rfl
theorem cb_lenL {ds : List D} (k : P (.int ds.length)) : cbD c (fun zs H Q => ∃ p ys, zs = [.ref p] ∧ (SqL c.K H p ys ∨ SqT c.K H p ys) ∧ Q (.int ys.length) H) [.lst ds] P := fun G H vs o a Q hq => by
  obtain ⟨v, rfl, p, xs, rfl, h1, h2⟩ := IsL.one_of a
  refine ⟨p, xs, rfl, .inl (h1.sq o.sub), ?_⟩
  rw [IsL.len h2]; exact hq G H _ _ k (Stp.refl o) rfl
theorem cb_abs {i : Int} (k : P (.int (if i < 0 then -i else i))) : cbD c (fun zs H Q => ∃ i, zs = [.int i] ∧ Q (.int (if i < 0 then -i else i)) H) [.int i] P := fun G H vs o a Q hq => by
  obtain ⟨v, rfl, h⟩ := IsL.one_of a
  cases (show v = V.int i from h)
  exact ⟨i, rfl, hq G H _ _ k (Stp.refl o) rfl⟩
theorem cb_int {i : Int} (k : P (.int i)) : cbD c (fun zs H Q => (∃ i, zs = [.int i] ∧ Q (.int i) H) ∨ ∃ k, zs = [.bl k] ∧ Q (.int (if k then 1 else 0)) H) [.int i] P := fun G H vs o a Q hq => by
  obtain ⟨v, rfl, h⟩ := IsL.one_of a
  cases (show v = V.int i from h)
  exact .inl ⟨i, rfl, hq G H _ _ k (Stp.refl o) rfl⟩
theorem cb_gcd {i j : Int} (k : P (.int ((Nat.gcd i.natAbs j.natAbs : Nat) : Int))) : cbD c rGcd [.int i, .int j] P := fun G H vs o a Q hq => by
  obtain ⟨v, w, rfl, h, h'⟩ := IsL.two_of a
  cases (show v = V.int i from h); cases (show w = V.int j from h')
  exact ⟨i, j, rfl, hq G H _ _ k (Stp.refl o) rfl⟩
theorem cb_min {i j : Int} (k : P (.int (if j < i then j else i))) : cbD c (fun zs H Q => ∃ i j, zs = [.int i, .int j] ∧ Q (.int (if j < i then j else i)) H) [.int i, .int j] P := fun G H vs o a Q hq => by
  obtain ⟨v, w, rfl, h, h'⟩ := IsL.two_of a
  cases (show v = V.int i from h); cases (show w = V.int j from h')
  exact ⟨i, j, rfl, hq G H _ _ k (Stp.refl o) rfl⟩
theorem cb_max {i j : Int} (k : P (.int (if j > i then j else i))) : cbD c (fun zs H Q => ∃ i j, zs = [.int i, .int j] ∧ Q (.int (if j > i then j else i)) H) [.int i, .int j] P := fun G H vs o a Q hq => by
  obtain ⟨v, w, rfl, h, h'⟩ := IsL.two_of a
  cases (show v = V.int i from h); cases (show w = V.int j from h')
  exact ⟨i, j, rfl, hq G H _ _ k (Stp.refl o) rfl⟩
/-- list(..), tuple(..) of a list or a tuple -/
theorem cb_listT {ds : List D} (k : P (.lst ds)) : cbD c (fun zs H Q => ∃ p ys, zs = [.ref p] ∧ (SqL c.K H p ys ∨ SqT c.K H p ys) ∧ ∀ l, H l = none → Q (.ref l) (upd H l (.lst ys))) [.tup ds] P := fun G H vs o a Q hq => by
  obtain ⟨v, rfl, p, xs, rfl, h1, h2⟩ := IsL.one_of a
  exact ⟨p, xs, rfl, .inr (h1.sq o.sub), fun n hn => hq _ _ _ _ k ((Stp.refl o).lay hn) ⟨n, xs, rfl, upd_same, IsL.mono (Ex.new (none_of_sub o.sub hn)) _ h2⟩⟩
theorem cb_listL {ds : List D} (k : P (.lst ds)) : cbD c (fun zs H Q => ∃ p ys, zs = [.ref p] ∧ (SqL c.K H p ys ∨ SqT c.K H p ys) ∧ ∀ l, H l = none → Q (.ref l) (upd H l (.lst ys))) [.lst ds] P := fun G H vs o a Q hq => by
  obtain ⟨v, rfl, p, xs, rfl, h1, h2⟩ := IsL.one_of a
  exact ⟨p, xs, rfl, .inl (h1.sq o.sub), fun n hn => hq _ _ _ _ k ((Stp.refl o).lay hn) ⟨n, xs, rfl, upd_same, IsL.mono (Ex.new (none_of_sub o.sub hn)) _ h2⟩⟩
theorem cb_tupT {ds : List D} (k : P (.tup ds)) : cbD c (fun zs H Q => ∃ p ys, zs = [.ref p] ∧ ((SqL c.K H p ys ∧ ∀ l, H l = none → Q (.ref l) (upd H l (.tup ys))) ∨ (SqT c.K H p ys ∧ Q (.ref p) H))) [.tup ds] P := fun G H vs o a Q hq => by
  obtain ⟨v, rfl, p, xs, rfl, h1, h2⟩ := IsL.one_of a
  exact ⟨p, xs, rfl, .inr ⟨h1.sq o.sub, hq G H _ _ k (Stp.refl o) ⟨p, xs, rfl, h1, h2⟩⟩⟩
theorem cb_tupL {ds : List D} (k : P (.tup ds)) : cbD c (fun zs H Q => ∃ p ys, zs = [.ref p] ∧ ((SqL c.K H p ys ∧ ∀ l, H l = none → Q (.ref l) (upd H l (.tup ys))) ∨ (SqT c.K H p ys ∧ Q (.ref p) H))) [.lst ds] P := fun G H vs o a Q hq => by
  obtain ⟨v, rfl, p, xs, rfl, h1, h2⟩ := IsL.one_of a
  exact ⟨p, xs, rfl, .inl ⟨h1.sq o.sub, fun n hn => hq _ _ _ _ k ((Stp.refl o).lay hn) ⟨n, xs, rfl, .inl upd_same, IsL.mono (Ex.new (none_of_sub o.sub hn)) _ h2⟩⟩⟩
def D.tyn : D → Option String
  | .non => some "NoneType"
  | .bl _ => some "bool"
  | .int _ => some "int"
  | .str _ => some "str"
  | .tup _ => some "tuple"
  | .lst _ => some "list"
  | _ => none
theorem Is.ty {K : KT} {G H : Hp} (e : Ex G H) : ∀ {d : D} {v : V} {n : String}, D.tyn d = some n → Is K G d v → TyX K H v (.type n)
  | .non, _, _, h, i => by cases h; cases (show _ = V.non from i); exact .base .non
  | .bl b, _, _, h, i => by cases h; cases (show _ = V.bl b from i); exact .base (.bl b)
  | .int b, _, _, h, i => by cases h; cases (show _ = V.int b from i); exact .base (.int b)
  | .str b, _, _, h, i => by cases h; cases (show _ = V.str b from i); exact .base (.str b)
  | .tup ds, _, _, h, ⟨a, xs, e1, h1, h2⟩ => by
    cases h; rw [e1]
    rcases h1 with h1 | ⟨o, its, n, h1, h3, _⟩
    · exact .base (.tup (e _ _ h1))
    · exact .kTuple h1 h3
  | .lst ds, _, _, h, ⟨a, xs, e1, h1, h2⟩ => by
    cases h; rw [e1]; exact .base (.lst (e _ _ h1))
theorem cb_isi {d : D} {t n : String} {b : Bool} (ht : D.tyn d = some t) (hk : kitB t n = some b) (k : P (.bl b)) : cbD c (rIsi c.K) [d, .ty n] P := fun G H vs o a Q hq => by
  obtain ⟨v, w, rfl, h, h'⟩ := IsL.two_of a
  cases (show w = V.ty n from h')
  exact ⟨v, _, _, _, b, rfl, .ty n, Is.ty o.sub ht h, kit_ty hk, hq G H _ _ k (Stp.refl o) rfl⟩
theorem kany2 {K : KT} {t n1 n2 : String} {b1 b2 : Bool} (h1 : kitB t n1 = some b1) (h2 : kitB t n2 = some b2) : PySem.W.kitAny K (.type t) [.type n1, .type n2] = some (b1 || b2) := by
  refine kitAny_cons (kit_ty h1) (fun e => ?_) fun e => by rw [e]; rfl
  rw [e]
  refine kitAny_cons (kit_ty h2) (fun e2 => ?_) fun e2 => by rw [e2]; rfl
  rw [e2]; exact kitAny_nil
/-- isinstance(e, (T1, T2)), the tuple written there -/
theorem wp_isi2 {n1 n2 : String} (h : wpE c ta q fun d => ∃ t b1 b2, D.tyn d = some t ∧ kitB t n1 = some b1 ∧ kitB t n2 = some b2 ∧ P (.bl (b1 || b2))) :
    wpE c (tCB (rIsiT c.K) (tCons ta (tCons (tTup (tCons (tC (.ty n1)) (tCons (tC (.ty n2)) tNil))) tNil))) q P := fun G H s S R Q hq =>
  h G H s S R _ fun G1 H1 v d h1 T1 i1 => by
    obtain ⟨t, b1, b2, ht, k1, k2, hp⟩ := h1
    refine ⟨(by decide : 2 ≤ sizeLine), fun p hp0 => ?_⟩
    have T2 := T1.lay (o := .tup [.ty n1, .ty n2]) hp0
    exact ⟨v, p, _, _, _, _, rfl, upd_same, .cons (.ty n1) (.cons (.ty n2) .nil), Is.ty (Ex.trans T1.ok.sub (Ex.new hp0)) ht i1, kany2 k1 k2, hq _ _ _ _ hp T2 rfl⟩
theorem wo_none {B : Option Int → Prop} (h : B none) : wpO c tNoPart q B := fun G H s S R Q hq => hq G H none h (Stp.refl S.ok)
theorem wo_some {B : Option Int → Prop} (h : wpE c te q fun x => ∃ i, x = .int i ∧ B (some i)) : wpO c (tPart te) q B := fun G H s S R Q hq =>
  h G H s S R _ fun G1 H1 v d h1 T1 i1 => by
    obtain ⟨i, rfl, h2⟩ := h1
    exact ⟨i, i1, hq G1 H1 _ h2 T1⟩
def cutD (xs : List D) (lo hi : Option Int) : List D := (xs.drop (HT.sIx xs.length 0 lo)).take (HT.sIx xs.length xs.length hi - HT.sIx xs.length 0 lo)
theorem IsL.cut {K : KT} {G : Hp} {ds : List D} {xs : List V} (h : IsL K G ds xs) (lo hi : Option Int) : IsL K G (cutD ds lo hi) (cutV xs lo hi) := by
  unfold cutD cutV
  rw [IsL.len h]
  exact IsL.take _ (IsL.drop _ h)
theorem wp_slL {tl th : TO} (h : wpE c te q fun x => wpO c tl q fun lo => wpO c th q fun hi => ∃ ds, x = .lst ds ∧ P (.lst (cutD ds lo hi))) : wpE c (tSl (rSlL c.K) te tl th) q P := fun G H s S R Q hq =>
  h G H s S R _ fun G1 H1 v d h1 T1 i1 => h1 G1 H1 s (S.trans T1) (R.step T1) _ fun G2 H2 lo h2 T2 => h2 G2 H2 s ((S.trans T1).trans T2) ((R.step T1).step T2) _ fun G3 H3 hi h3 T3 => by
    obtain ⟨ds, rfl, hp⟩ := h3
    obtain ⟨a, xs, rfl, a1, a2⟩ := i1
    have e := T2.ex.trans T3.ex
    refine ⟨a, xs, rfl, (a1.mono e).sq T3.ok.sub, fun p hp0 => ?_⟩
    have T := ((T1.trans T2).trans T3).lay (o := .lst (cutV xs lo hi)) hp0
    exact hq _ _ _ _ hp T ⟨p, _, rfl, upd_same, IsL.mono (Ex.new (none_of_sub T3.ok.sub hp0)) _ (IsL.mono e _ (IsL.cut a2 lo hi))⟩
theorem IsL.whole {K : KT} {G : Hp} {ds : List D} {xs : List V} (h : IsL K G ds xs) {lo hi : Option Int} (e1 : HT.sIx xs.length 0 lo = 0) (e2 : HT.sIx xs.length xs.length hi = xs.length) : cutD ds lo hi = ds := by
  unfold cutD
  rw [← IsL.len h, e1, e2, List.drop_zero, Nat.sub_zero, IsL.len h, List.take_length]
/-- e is True, e is not False, of truth values -/
theorem od_bb {f : Bool → Bool → Bool} {a b : Bool} (k : P (.bl (f a b))) : opD c (fun x y H Q => ∃ a b, x = .bl a ∧ y = .bl b ∧ Q (.bl (f a b)) H) (.bl a) (.bl b) P := fun G H vx vy o i j Q hq => by
  cases (show vx = V.bl a from i); cases (show vy = V.bl b from j)
  exact ⟨a, b, rfl, rfl, hq G H _ _ k (Stp.refl o) rfl⟩
theorem wp_chain {r r' : R2} {tc : TE} (h : wpE c ta q fun x => wpE c tb q fun y => opD c r x y fun z => ∃ b, z = .bl b ∧ (b = true → wpE c tc q fun w => opD c r' y w P) ∧ (b = false → P (.bl false))) : wpE c (tChain r r' ta tb tc) q P := fun G H s S R Q hq =>
  h G H s S R _ fun G1 H1 vx x h1 T1 i1 => h1 G1 H1 s (S.trans T1) (R.step T1) _ fun G2 H2 vy y h2 T2 i2 =>
    h2 G2 H2 vx vy T2.ok (Is.mono T2.ex x i1) i2 _ fun G3 H3 v d p T3 i3 => by
      obtain ⟨b, rfl, k1, k2⟩ := p
      have T := (T1.trans T2).trans T3
      refine ⟨b, i3, ?_⟩
      cases b with
      | false =>
        first
          | exact hq G3 H3 _ _ (k2 rfl) T rfl
          | (rw [if_neg (by decide)]; exact hq G3 H3 _ _ (k2 rfl) T rfl)
          | (rw [if_pos (by decide)]; exact hq G3 H3 _ _ (k2 rfl) T rfl)
      | true =>
        have g := k1 rfl G3 H3 s (S.trans T) (R.step T) (fun w H4 => r' vy w H4 Q) fun G4 H4 vw w h4 T4 i4 =>
          h4 G4 H4 vy vw T4.ok (Is.mono (T3.ex.trans T4.ex) y i2) i4 Q fun G5 H5 v5 d5 p5 T5 i5 => hq G5 H5 v5 d5 p5 ((T.trans T4).trans T5) i5
        first
          | exact g
          | (rw [if_neg (by decide)]; exact g)
          | (rw [if_pos (by decide)]; exact g)
end
end Ez
set_option Elab.async false
set_option linter.all false
set_option maxRecDepth 100000
namespace Ez
open L2 PySem PyProof.Rows PySem.Spec
section
variable {c : Cn} {q : List Sl} {P : D → Prop} {ta tb te : TE} {t u : TT} {F : Fn} {ts tu tw : TS} {g : TG}
/-- a state of a loop: some slots by the loop's word, what was kept at G1 kept -/
def LpAt (c : Cn) (G1 : Hp) (I : List Sl → Prop) (s : L2.St) (H : Hp) : Prop := ∃ G q', I q' ∧ Ex G1 G ∧ c.S G H ∧ c.R G H s q'
theorem turn_at {tb : TS} {I J : List Sl → Prop} {G1 : Hp} {D' : Ends} {x : D} {v : V} {s : L2.St} {H G : Hp} {q' : List Sl} (p : Post c D' F G1) (e : Ex G1 G) (S : c.S G H) (R : c.R G H s q') (iv : Is c.K G x v)
    (h : wpG c g x q' fun q2 => wpS c tb q2 { F with nx := I, ct := J, bk := F.nx }) : g v s H fun s2 H2 => tb { D' with nx := LpAt c G1 I, ct := LpAt c G1 J, bk := D'.nx } s2 H2 :=
  h G H s v S R iv _ fun s2 H2 G2 q2 w e2 S2 R2 => w _ s2 G2 H2 S2 R2
    ⟨fun s3 H3 G3 q3 a b S3 R3 => ⟨G3, q3, a, (e.trans e2).trans b, S3, R3⟩, fun v H3 G3 d m n a b => p.rt v H3 G3 d m n a ((e.trans e2).trans b), fun s3 H3 G3 q3 a b => p.nx s3 H3 G3 q3 a ((e.trans e2).trans b), fun s3 H3 G3 q3 a b S3 R3 => ⟨G3, q3, a, (e.trans e2).trans b, S3, R3⟩⟩
theorem ws_forR1 {tb : TS} {ta : TA} (h : wpA c ta q fun ds => ∃ n : Int, ds = [.int n] ∧ -(2 ^ 62) ≤ n ∧ n < 2 ^ 62 ∧ ∃ I : Nat → List Sl → Prop, I 0 q ∧
      (∀ (i : Nat) q', (i : Int) < n → I i q' → wpG c g (.int i) q' fun q2 => wpS c tb q2 { F with nx := I (i + 1), ct := I (i + 1), bk := F.nx }) ∧ ∀ q', I n.toNat q' → F.nx q') :
    wpS c (tFor (iRng1 ta) g tb) q F := fun D' s G H S R p =>
  h G H s S R _ fun G1 H1 vs ds h1 T1 i1 => by
    obtain ⟨n, rfl, n1, n2, I, h0, hs, hd⟩ := h1
    obtain ⟨v, rfl, iv⟩ := IsL.one_of i1
    cases (show v = V.int n from iv)
    have p1 := p.more T1.ex
    refine ⟨n, rfl, n1, n2, for_range (lo := 0) (n := n.toNat) (fun i => LpAt c G1 (I i)) ⟨G1, q, h0, Ex.refl G1, S.trans T1, R.step T1⟩ (fun i s' H' hi z => ?_) fun s' H' z => ?_⟩
    · obtain ⟨G2, q2, w, e2, S2, R2⟩ := z
      rw [show (0 : Int) + (i : Int) = (i : Int) from Int.zero_add _]
      exact turn_at p1 e2 S2 R2 (show Is c.K G2 (.int (i : Int)) (V.int (i : Int)) from rfl) (hs i q2 (by omega) w)
    · obtain ⟨G2, q2, w, e2, S2, R2⟩ := z
      exact p1.nx s' H' G2 q2 (hd q2 w) e2 S2 R2
theorem ws_forR2 {tb : TS} {ta : TA} (h : wpA c ta q fun ds => ∃ lo n : Int, ds = [.int lo, .int n] ∧ (-(2 ^ 62) ≤ lo ∧ lo < 2 ^ 62 ∧ -(2 ^ 62) ≤ n ∧ n < 2 ^ 62) ∧ ∃ I : Nat → List Sl → Prop, I 0 q ∧
      (∀ (i : Nat) q', lo + (i : Int) < n → I i q' → wpG c g (.int (lo + i)) q' fun q2 => wpS c tb q2 { F with nx := I (i + 1), ct := I (i + 1), bk := F.nx }) ∧ ∀ q', I (n - lo).toNat q' → F.nx q') :
    wpS c (tFor (iRng2 ta) g tb) q F := fun D' s G H S R p =>
  h G H s S R _ fun G1 H1 vs ds h1 T1 i1 => by
    obtain ⟨lo, n, rfl, hb, I, h0, hs, hd⟩ := h1
    obtain ⟨v, w, rfl, iv, iw⟩ := IsL.two_of i1
    cases (show v = V.int lo from iv)
    cases (show w = V.int n from iw)
    have p1 := p.more T1.ex
    refine ⟨lo, n, rfl, hb, for_range (lo := lo) (n := (n - lo).toNat) (fun i => LpAt c G1 (I i)) ⟨G1, q, h0, Ex.refl G1, S.trans T1, R.step T1⟩ (fun i s' H' hi z => ?_) fun s' H' z => ?_⟩
    · obtain ⟨G2, q2, w, e2, S2, R2⟩ := z
      exact turn_at p1 e2 S2 R2 (show Is c.K G2 (.int (lo + (i : Int))) (V.int (lo + (i : Int))) from rfl) (hs i q2 (by omega) w)
    · obtain ⟨G2, q2, w, e2, S2, R2⟩ := z
      exact p1.nx s' H' G2 q2 (hd q2 w) e2 S2 R2
theorem ws_while {tb : TS} (I : Nat → List Sl → Prop) (h0 : ∃ m, I m q) (h : ∀ m q', I m q' → wpT c t q' fun b =>
      (b = true → wpS c tb q' { F with nx := fun q2 => ∃ m', m' < m ∧ I m' q2, ct := fun q2 => ∃ m', m' < m ∧ I m' q2, bk := F.nx }) ∧ (b = false → F.nx q')) : wpS c (tWhile t tb) q F := fun D' s G H S R p => by
  obtain ⟨m, h0⟩ := h0
  refine ⟨fun m => LpAt c G (I m), ⟨m, G, q, h0, Ex.refl G, S, R⟩, fun m s1 H1 w => ?_⟩
  obtain ⟨G1, q1, w, e1, S1, R1⟩ := w
  refine h m q1 w G1 H1 s1 S1 R1 _ fun G2 H2 b h2 T2 => ?_
  cases b with
  | false =>
    have z := p.nx s1 H2 G2 q1 (h2.2 rfl) (e1.trans T2.ex) (S1.trans T2) (R1.step T2)
    first
      | exact z
      | (rw [if_neg (by decide)]; exact z)
  | true =>
    have z : ∃ N : L2.St → Hp → Prop, (∀ s' H', N s' H' → ∃ m', m' < m ∧ LpAt c G (I m') s' H') ∧ tb { D' with nx := N, ct := N, bk := D'.nx } s1 H2 := by
      refine ⟨fun s' H' => ∃ m', m' < m ∧ LpAt c G (I m') s' H', fun _ _ z => z, ?_⟩
      refine h2.1 rfl _ s1 G2 H2 (S1.trans T2) (R1.step T2) ⟨fun s3 H3 G3 q3 a b S3 R3 => ?_, fun v H3 G3 d m n a b => p.rt v H3 G3 d m n a ((e1.trans T2.ex).trans b), fun s3 H3 G3 q3 a b => p.nx s3 H3 G3 q3 a ((e1.trans T2.ex).trans b), fun s3 H3 G3 q3 a b S3 R3 => ?_⟩
      · obtain ⟨m', lt, a⟩ := a
        exact ⟨m', lt, G3, q3, a, (e1.trans T2.ex).trans b, S3, R3⟩
      · obtain ⟨m', lt, a⟩ := a
        exact ⟨m', lt, G3, q3, a, (e1.trans T2.ex).trans b, S3, R3⟩
    first
      | exact z
      | (rw [if_pos rfl]; exact z)
theorem ws_par {i j : Nat} {ta : TA} (h : wpA c ta q fun ds => ∃ x y, ds = [x, y] ∧ i < q.length ∧ j < q.length ∧ F.nx ((q.set i (.dat x)).set j (.dat y))) : wpS c (tPar i j ta) q F := fun D' s G H S R p =>
  h G H s S R _ fun G1 H1 vs ds h1 T1 i1 => by
    obtain ⟨x, y, rfl, hi, hj, k⟩ := h1
    obtain ⟨v, w, rfl, iv, iw⟩ := IsL.two_of i1
    exact ⟨v, w, rfl, p.nx _ _ G1 _ k T1.ex (S.trans T1) (((R.step T1).setD iv hi).setD iw (by simpa using hj))⟩
/-- a new list that nobody else holds -/
def wpF (c : Cn) (te : TE) (q : List Sl) (P : List D → Prop) : Prop :=
  ∀ G H s, c.S G H → c.R G H s q → ∀ Q : VK, (∀ G' H1 p xs ds, P ds → Stp c.W G H G' H1 → H1 p = none → IsL c.K G' ds xs → Q (.ref p) (upd H1 p (.lst xs))) → te s H Q
theorem wf_lst {ta : TA} {P : List D → Prop} (h : wpA c ta q fun xs => xs.length ≤ 10000 ∧ P xs) : wpF c (tLst ta) q P := fun G H s S R Q hq =>
  h G H s S R _ fun G1 H1 vs xs h1 T1 i1 => ⟨by rw [IsL.len i1]; exact Nat.le_trans h1.1 (by decide), fun p hp => hq G1 H1 p vs xs h1.2 T1 hp i1⟩
theorem wf_listT {ta : TA} {P : List D → Prop} (h : wpA c ta q fun xs => ∃ ds, (xs = [.tup ds] ∨ xs = [.lst ds]) ∧ P ds) : wpF c (tCB (fun zs H Q => ∃ p ys, zs = [.ref p] ∧ (SqL c.K H p ys ∨ SqT c.K H p ys) ∧ ∀ l, H l = none → Q (.ref l) (upd H l (.lst ys))) ta) q P := fun G H s S R Q hq =>
  h G H s S R _ fun G1 H1 vs xs h1 T1 i1 => by
    obtain ⟨ds, e, k⟩ := h1
    rcases e with rfl | rfl
    · obtain ⟨v, rfl, p, ys, rfl, h2, h3⟩ := IsL.one_of i1
      exact ⟨p, ys, rfl, .inr (h2.sq T1.ok.sub), fun l hl => hq G1 H1 l ys ds k T1 hl h3⟩
    · obtain ⟨v, rfl, p, ys, rfl, h2, h3⟩ := IsL.one_of i1
      exact ⟨p, ys, rfl, .inl (h2.sq T1.ok.sub), fun l hl => hq G1 H1 l ys ds k T1 hl h3⟩
theorem ws_asgF {i : Nat} (hl : i < q.length) (h : wpF c te q fun ds => ∀ a, F.nx (q.set i (.own a ds))) : wpS c (tAsg te (gName i)) q F := fun D' s G H S R p =>
  h G H s S R _ fun G1 H1 a xs ds h1 T1 hn hx => by
    have S1 := S.trans T1
    have hg := none_of_sub T1.ok.sub hn
    exact p.nx _ _ G1 _ (h1 a) T1.ex (S1.put (none_of_th S1.th hn) hg (T1.ok.notM hn)) ((R.step T1).setO hn (none_of_th S1.th hn) hg (T1.ok.notM hn) hx hl)
/-- a new list is given back -/
theorem ws_retNew (hf : c.fr = true) (h : wpF c te q fun ds => F.rt q (.lst ds)) : wpS c (tRet te) q F := fun D' s G H S R p =>
  h G H s S R _ fun G1 H1 a xs ds h1 T1 hn hx => by
    have S1 := S.trans T1
    have hg := none_of_sub T1.ok.sub hn
    have m := T1.ok.notM hn
    have R2 : c.R G1 (upd H1 a (.lst xs)) s q := (R.step T1).step ((Stp.refl T1.ok).put hn hg m)
    exact p.rt (.ref a) _ G1 (.lst ds) s q h1 T1.ex (S1.put (none_of_th S1.th hn) hg m) (by unfold IsR; rw [hf]; exact .inl ⟨a, ds, xs, rfl, rfl, upd_same, hg, none_of_th S1.th hn, m, hx⟩) R2
/-- what comes is a list that nobody else holds, or a tuple -/
def wpM (c : Cn) (te : TE) (q : List Sl) (P P2 : List D → Prop) : Prop :=
  ∀ G H s, c.S G H → c.R G H s q → ∀ Q : VK, (∀ G' H1 p xs ds, P ds → Stp c.W G H G' H1 → H1 p = none → IsL c.K G' ds xs → Q (.ref p) (upd H1 p (.lst xs))) → (∀ G' H' v l, P2 l → Stp c.W G H G' H' → Is c.K G' (.tup l) v → Q v H') → te s H Q
theorem ws_asgM {i : Nat} (hl : i < q.length) (h : wpM c te q (fun ds => ∀ a, F.nx (q.set i (.own a ds))) (fun l => F.nx (q.set i (.dat (.tup l))))) : wpS c (tAsg te (gName i)) q F := fun D' s G H S R p =>
  h G H s S R _ (fun G1 H1 a xs ds h1 T1 hn hx => by
    have S1 := S.trans T1
    have hg := none_of_sub T1.ok.sub hn
    exact p.nx _ _ G1 _ (h1 a) T1.ex (S1.put (none_of_th S1.th hn) hg (T1.ok.notM hn)) ((R.step T1).setO hn (none_of_th S1.th hn) hg (T1.ok.notM hn) hx hl)) fun G1 H1 v l h1 T1 i1 =>
      p.nx _ _ G1 _ h1 T1.ex (S.trans T1) ((R.step T1).setD i1 hl)
theorem ws_app {i : Nat} {a : Addr} {ds : List D} (hi : q[i]? = some (.own a ds)) (h : wpE c te q fun d => ds.length ≤ 10000 ∧ F.nx (q.set i (.own a (ds ++ [d])))) : wpS c (tDrop (tBM c.K "list" rAppend (tVar i) (tCons te tNil))) q F := fun D' s G H S R p => by
  obtain ⟨xs, e1, e2, e3, e4, e5, e6⟩ := R.own i a ds hi
  refine ⟨_, e1, Or.inl ⟨rfl, _, Or.inl (Or.inl e2)⟩, ?_⟩
  refine h G H s S R _ fun G1 H1 v d h1 T1 i1 => ?_
  exact ⟨a, xs, v, rfl, rfl, T1.kp a _ e5 e2, by rw [IsL.len e6]; exact Nat.lt_of_le_of_lt h1.1 (by decide), p.nx _ _ G1 _ h1.2 T1.ex ((S.trans T1).put e4 ((R.step T1).own i a ds hi).choose_spec.2.2.1 e5) ((R.step T1).putO hi (IsL.app (IsL.mono T1.ex _ e6) (IsL.one i1)))⟩
theorem IsL.set {K : KT} {G : Hp} {d : D} {v : V} (hv : Is K G d v) : ∀ {ds : List D} {xs : List V} (j : Nat), IsL K G ds xs → IsL K G (ds.set j d) (xs.set j v)
  | [], _, j, h => by cases (show _ = [] from h); exact rfl
  | e :: ds, _, 0, ⟨x, r, p, a, b⟩ => ⟨v, r, by rw [p]; rfl, hv, b⟩
  | e :: ds, _, j + 1, ⟨x, r, p, a, b⟩ => ⟨x, r.set j v, by rw [p]; rfl, a, IsL.set hv j b⟩
/-- an index that may be read, stored at -/
def IxD (x : D) (ds : List D) (P : D → Prop) : Prop := ∃ k d, x = .int k ∧ atI ds k = some d ∧ P d
def StD (x : D) (n : Nat) (P : Nat → Prop) : Prop := ∃ k j, x = .int k ∧ ixN n k = some j ∧ P j
theorem ix_of {ds : List D} {P : D → Prop} {k : Int} {d : D} (h : atI ds k = some d) (p : P d) : IxD (.int k) ds P := ⟨k, d, rfl, h, p⟩
theorem st_of {n : Nat} {P : Nat → Prop} {k : Int} {j : Nat} (h : ixN n k = some j) (p : P j) : StD (.int k) n P := ⟨k, j, rfl, h, p⟩
theorem ws_setO {i : Nat} {a : Addr} {ds : List D} {ti : TE} (hi : q[i]? = some (.own a ds)) (h : wpE c te q fun d => wpE c ti q fun x => StD x ds.length fun j => F.nx (q.set i (.own a (ds.set j d)))) : wpS c (tAsg te (gSub (tVar i) ti rSetL)) q F := fun D' s G H S R p => by
  refine h G H s S R _ fun G1 H1 v d h1 T1 i1 => ?_
  have R1 := R.step T1
  obtain ⟨xs, e1, e2, e3, e4, e5, e6⟩ := R1.own i a ds hi
  refine ⟨_, e1, h1 G1 H1 s (S.trans T1) R1 _ fun G2 H2 v2 d2 h2 T2 i2 => ?_⟩
  obtain ⟨k, j, rfl, ej, hn⟩ := h2
  have R2 := R1.step T2
  obtain ⟨xs', f1, f2, f3, f4, f5, f6⟩ := R2.own i a ds hi
  refine ⟨a, xs', k, j, rfl, i2, f2, by rw [IsL.len f6]; exact ej, ?_⟩
  exact p.nx _ _ G2 _ hn (T1.ex.trans T2.ex) (((S.trans T1).trans T2).put f4 f3 f5) (R2.putO hi (IsL.set (Is.mono T2.ex d i1) j f6))
/-- len, an item of an own list -/
theorem wp_lenO {i : Nat} {a : Addr} {ds : List D} (hi : q[i]? = some (.own a ds)) (k : P (.int ds.length)) : wpE c (tCB (fun zs H Q => ∃ p ys, zs = [.ref p] ∧ (SqL c.K H p ys ∨ SqT c.K H p ys) ∧ Q (.int ys.length) H) (tCons (tVar i) tNil)) q P := fun G H s S R Q hq => by
  obtain ⟨xs, e1, e2, e3, e4, e5, e6⟩ := R.own i a ds hi
  refine ⟨_, e1, a, xs, rfl, .inl (.inl (.inl e2)), ?_⟩
  rw [IsL.len e6]; exact hq G H _ _ k (Stp.refl S.ok) rfl
theorem wp_ixO {i : Nat} {a : Addr} {ds : List D} (hi : q[i]? = some (.own a ds)) (h : wpE c te q fun x => IxD x ds P) : wpE c (tOp (rIx c.K) (tVar i) te) q P := fun G H s S R Q hq => by
  obtain ⟨xs, e1, e2, e3, e4, e5, e6⟩ := R.own i a ds hi
  refine ⟨_, e1, h G H s S R _ fun G1 H1 v d h1 T1 i1 => ?_⟩
  obtain ⟨k, d2, rfl, hk, hp⟩ := h1
  obtain ⟨xs', f1, f2, f3, f4, f5, f6⟩ := (R.step T1).own i a ds hi
  obtain ⟨x, e7, h3⟩ := atI_is f6 hk
  exact .inl ⟨a, xs', k, x, rfl, i1, .inl (.inl f2), e7, hq G1 H1 _ d2 hp T1 h3⟩
theorem wp_tupO {i : Nat} {a : Addr} {ds : List D} (hi : q[i]? = some (.own a ds)) (k : P (.tup ds)) : wpE c (tCB (fun zs H Q => ∃ p ys, zs = [.ref p] ∧ ((SqL c.K H p ys ∧ ∀ l, H l = none → Q (.ref l) (upd H l (.tup ys))) ∨ (SqT c.K H p ys ∧ Q (.ref p) H))) (tCons (tVar i) tNil)) q P := fun G H s S R Q hq => by
  obtain ⟨xs, e1, e2, e3, e4, e5, e6⟩ := R.own i a ds hi
  exact ⟨_, e1, a, xs, rfl, .inl ⟨.inl (.inl e2), fun n hn => hq _ _ _ _ k ((Stp.refl S.ok).lay hn) ⟨n, xs, rfl, .inl upd_same, IsL.mono (Ex.new (none_of_sub S.ok.sub hn)) _ e6⟩⟩⟩
def wipeS (q : List Sl) : List Nat → List Sl
  | [] => q
  | v :: vs => (wipeS q vs).set v .unk
theorem Rel.wipe {K : KT} {W : Wd} {H0 G H : Hp} {s : L2.St} (R : Rel K W H0 G H s q) : ∀ vs, Rel K W H0 G H (L2.wipe s vs) (wipeS q vs)
  | [] => R
  | v :: vs => (Rel.wipe R vs).setN
def wpW (c : Cn) (g : TG) (vs : List Nat) (d : D) (q : List Sl) (N : List Sl → Prop) : Prop :=
  ∀ G H s v, Ok c.W G H → c.R G H s q → Is c.K G d v → ∀ Q : L2.St → Hp → Prop, (∀ s' q', N q' → L2.wipe s' vs = L2.wipe s vs → c.R G H s' q' → Q s' H) → g v s H Q
def wpWs (c : Cn) (g : TGs) (vs : List Nat) (ds : List D) (q : List Sl) (N : List Sl → Prop) : Prop :=
  ∀ G H s xs, Ok c.W G H → c.R G H s q → IsL c.K G ds xs → ∀ Q : L2.St → Hp → Prop, (∀ s' q', N q' → L2.wipe s' vs = L2.wipe s vs → c.R G H s' q' → Q s' H) → g xs s H Q
theorem set_wipe {s : L2.St} {j : Nat} {x : Option V} : ∀ {vs : List Nat}, j ∈ vs → L2.wipe (s.set j x) vs = L2.wipe s vs
  | v :: vs, h => by
    have c0 : ∀ (ws : List Nat), L2.wipe (s.set j x) ws = (if j ∈ ws then L2.wipe s ws else (L2.wipe s ws).set j x) := by
      intro ws
      induction ws with
      | nil => simp [L2.wipe]
      | cons w ws ih =>
        show (L2.wipe (s.set j x) ws).set w none = _
        rw [ih]
        by_cases e : j = w
        · subst e
          by_cases m : j ∈ ws <;> simp [m, L2.wipe, List.set_set]
        · by_cases m : j ∈ ws
          · simp [m, L2.wipe]
          · have : ¬ (j ∈ w :: ws) := by simp [e, m]
            rw [if_neg m, if_neg this]
            show _ = ((L2.wipe s ws).set w none).set j x
            rw [List.set_comm _ _ e]
    rw [c0, if_pos h]
theorem wipe_wipe {s : L2.St} : ∀ {vs ws : List Nat}, (∀ v ∈ vs, v ∈ ws) → L2.wipe (L2.wipe s vs) ws = L2.wipe s ws
  | [], ws, _ => rfl
  | v :: vs, ws, h => by
    show L2.wipe ((L2.wipe s vs).set v none) ws = _
    rw [set_wipe (h v (by simp)), wipe_wipe fun u hu => h u (by simp [hu])]
theorem ww_name {vs : List Nat} {j : Nat} {d : D} {N : List Sl → Prop} (hj : j ∈ vs) (hl : j < q.length) (h : N (q.set j (.dat d))) : wpW c (gName j) vs d q N := fun G H s v S R hv Q hq =>
  hq _ _ h (set_wipe hj) (R.setD hv hl)
theorem ww_nil {vs : List Nat} {N : List Sl → Prop} (h : N q) : wpWs c gNil vs [] q N := fun G H s xs S R hv Q hq => ⟨hv, hq _ _ h rfl R⟩
theorem ww_cons {vs : List Nat} {gs : TGs} {d : D} {ds : List D} {N : List Sl → Prop} (h : wpW c g vs d q fun q' => wpWs c gs vs ds q' N) : wpWs c (gCons g gs) vs (d :: ds) q N := fun G H s xs S R hv Q hq => by
  obtain ⟨x, r, rfl, h1, h2⟩ := hv
  exact ⟨x, r, rfl, h G H s x S R h1 _ fun s' q' a e R' => a G H s' r S R' h2 Q fun s2 q2 b e2 R2 => hq s2 q2 b (e2.trans e) R2⟩
theorem ww_tup {vs : List Nat} {gs : TGs} {n : Nat} {ds : List D} {N : List Sl → Prop} (hn : ds.length = n) (h : wpWs c gs vs ds q N) : wpW c (gTup c.K n gs) vs (.tup ds) q N := fun G H s v S R hv Q hq => by
  obtain ⟨a, xs, rfl, h1, h2⟩ := hv
  exact ⟨a, xs, rfl, h1.sq S.sub, by rw [IsL.len h2, hn], h G H s xs S R h2 Q hq⟩
/-- a turn's state: the list that is made stands at A -/
def LcAt (c : Cn) (G1 H1 : Hp) (A : Addr) (i : Nat) (I : List D → Prop) (H : Hp) : Prop := ∃ G acc xs, I acc ∧ acc.length ≤ i ∧ Stp c.W G1 H1 G H ∧ H A = some (.lst xs) ∧ G A = none ∧ IsL c.K G acc xs
/-- what a turn asks -/
def lcTurn (c : Cn) (g : TG) (tt : TT) (te : TE) (vs : List Nat) (q : List Sl) (x : D) (acc : List D) (J : List D → Prop) : Prop :=
  wpW c g vs x (wipeS q vs) fun q2 => wpT c tt q2 fun b => (b = true → wpE c te q2 fun y => J (acc ++ [y])) ∧ (b = false → J acc)
theorem lc_turn {tt : TT} {vs : List Nat} {G1 H1 H : Hp} {A : Addr} {i : Nat} {I J : List D → Prop} {s : L2.St} (hA : H1 A = none) (S : c.S G1 H1) (R : c.R G1 H1 s q) (hi : i ≤ 10000) (w : LcAt c G1 H1 A i I H)
    {x : D} {v : V} (iv : Is c.K G1 x v) (h : ∀ acc, I acc → lcTurn c g tt te vs q x acc J) :
    g v (L2.wipe s vs) H fun s2 H2 => L2.wipe s2 vs = L2.wipe s vs ∧ tt s2 H2 fun b H3 => if b = true then te s2 H3 fun y H4 => ∃ acc, H4 A = some (.lst acc) ∧ acc.length < sizeLine ∧ LcAt c G1 H1 A (i + 1) J (upd H4 A (.lst (acc ++ [y]))) else LcAt c G1 H1 A (i + 1) J H3 := by
  obtain ⟨G, acc, xs, ha, hl, T, a1, a2, a3⟩ := w
  have mA : ¬ c.W.M A := S.ok.notM hA
  have hold : ∀ {G' H' : Hp}, Stp c.W G H G' H' → H' A = some (.lst xs) ∧ G' A = none ∧ IsL c.K G' acc xs := fun {G' H'} T' => by
    refine ⟨T'.kp A _ mA a1, ?_, IsL.mono T'.ex _ a3⟩
    cases z : G' A with
    | none => rfl
    | some o =>
      rcases T'.fresh A o z with y | y
      · rw [a2] at y; cases y
      · rw [a1] at y; cases y
  refine h acc ha G H _ v T.ok ((R.step T).wipe vs) (Is.mono T.ex x iv) _ fun s2 q2 h2 e2 R2 => ⟨by rw [e2, wipe_wipe fun _ z => z], ?_⟩
  refine h2 G H s2 (S.trans T) R2 _ fun G3 H3 b h3 T3 => ?_
  obtain ⟨b1, b2, b3⟩ := hold T3
  cases b with
  | false =>
    have z : LcAt c G1 H1 A (i + 1) J H3 := ⟨G3, acc, xs, h3.2 rfl, Nat.le_succ_of_le hl, T.trans T3, b1, b2, b3⟩
    first
      | exact z
      | (rw [if_neg (by decide)]; exact z)
  | true =>
    have z : te s2 H3 fun y H4 => ∃ acc, H4 A = some (.lst acc) ∧ acc.length < sizeLine ∧ LcAt c G1 H1 A (i + 1) J (upd H4 A (.lst (acc ++ [y]))) := by
      refine h3.1 rfl G3 H3 s2 ((S.trans T).trans T3) (R2.step T3) _ fun G4 H4 y d h4 T4 i4 => ?_
      obtain ⟨c1, c2, c3⟩ := hold (T3.trans T4)
      refine ⟨xs, c1, by rw [IsL.len a3]; exact Nat.lt_of_le_of_lt (Nat.le_trans hl hi) (by decide), G4, acc ++ [d], xs ++ [y], h4, by simpa using hl, ((T.trans T3).trans T4).put hA c2 mA, upd_same, c2, IsL.app c3 (IsL.one i4)⟩
    first
      | exact z
      | (rw [if_pos rfl]; exact z)
theorem lc_end {G1 H1 H : Hp} {A : Addr} {i : Nat} {I : List D → Prop} (hA : H1 A = none) (ok : Ok c.W G1 H1) (w : LcAt c G1 H1 A i I H) {Q : VK} (hq : ∀ G' v acc, I acc → Stp c.W G1 H1 G' H → Is c.K G' (.lst acc) v → Q v H) : Q (.ref A) H := by
  obtain ⟨G, acc, xs, ha, hl, T, a1, a2, a3⟩ := w
  exact hq _ _ acc ha (T.keep hA a2 a1 (ok.notM hA)) ⟨A, xs, rfl, upd_same, IsL.mono (Ex.new a2) _ a3⟩
theorem wp_lcR1 {tt : TT} {vs : List Nat} {ta : TA} (h : wpA c ta q fun ds => ∃ n : Int, ds = [.int n] ∧ -10000 ≤ n ∧ n ≤ 10000 ∧ ∃ I : Nat → List D → Prop, I 0 [] ∧
      (∀ (i : Nat) acc, (i : Int) < n → I i acc → lcTurn c g tt te vs q (.int i) acc (I (i + 1))) ∧ ∀ acc, I n.toNat acc → P (.lst acc)) : wpE c (tLc (iRng1 ta) g tt te vs) q P := fun G H s S R Q hq =>
  h G H s S R _ fun G1 H1 vs' ds h1 T1 i1 => by
    obtain ⟨n, rfl, n1, n2, I, h0, hs, hd⟩ := h1
    obtain ⟨v, rfl, iv⟩ := IsL.one_of i1
    cases (show v = V.int n from iv)
    refine ⟨n, rfl, by omega, by omega, fun A hA => lc_range (lo := 0) (n := n.toNat) (fun i => LcAt c G1 H1 A i (I i)) ?_ (fun i H' hi w => ?_) fun H' w => ?_⟩
    · exact ⟨G1, [], [], h0, Nat.le_refl 0, (Stp.refl T1.ok).put hA (none_of_sub T1.ok.sub hA) (T1.ok.notM hA), upd_same, none_of_sub T1.ok.sub hA, rfl⟩
    · have e0 : (0 : Int) + (i : Int) = (i : Int) := Int.zero_add _
      rw [e0]
      exact lc_turn (x := .int i) hA (S.trans T1) (R.step T1) (by omega) w rfl fun acc ha => hs i acc (by omega) ha
    · exact lc_end hA T1.ok w fun G' v acc ha T' iv => hq G' H' v _ (hd acc ha) (T1.trans T') iv
theorem wp_lcR2 {tt : TT} {vs : List Nat} {ta : TA} (h : wpA c ta q fun ds => ∃ lo n : Int, ds = [.int lo, .int n] ∧ -10000 ≤ n ∧ n ≤ 10000 ∧ 0 ≤ lo ∧ lo ≤ 10000 ∧ ∃ I : Nat → List D → Prop, I 0 [] ∧
      (∀ (i : Nat) acc, lo + (i : Int) < n → I i acc → lcTurn c g tt te vs q (.int (lo + i)) acc (I (i + 1))) ∧ ∀ acc, I (n - lo).toNat acc → P (.lst acc)) : wpE c (tLc (iRng2 ta) g tt te vs) q P := fun G H s S R Q hq =>
  h G H s S R _ fun G1 H1 vs' ds h1 T1 i1 => by
    obtain ⟨lo, n, rfl, n1, n2, n3, n4, I, h0, hs, hd⟩ := h1
    obtain ⟨v, w, rfl, iv, iw⟩ := IsL.two_of i1
    cases (show v = V.int lo from iv)
    cases (show w = V.int n from iw)
    refine ⟨lo, n, rfl, ⟨by omega, by omega, by omega, by omega⟩, fun A hA => lc_range (lo := lo) (n := (n - lo).toNat) (fun i => LcAt c G1 H1 A i (I i)) ?_ (fun i H' hi w => ?_) fun H' w => ?_⟩
    · exact ⟨G1, [], [], h0, Nat.le_refl 0, (Stp.refl T1.ok).put hA (none_of_sub T1.ok.sub hA) (T1.ok.notM hA), upd_same, none_of_sub T1.ok.sub hA, rfl⟩
    · exact lc_turn (x := .int (lo + i)) hA (S.trans T1) (R.step T1) (by omega) w rfl fun acc ha => hs i acc (by omega) ha
    · exact lc_end hA T1.ok w fun G' v acc ha T' iv => hq G' H' v _ (hd acc ha) (T1.trans T') iv
theorem wt_yes {B : Bool → Prop} (h : B true) : wpT c tYes q B := fun G H s S R Q hq => hq G H true h (Stp.refl S.ok)
end
end Ez
set_option Elab.async false
set_option linter.all false
set_option maxRecDepth 100000
namespace Ez
open L2 PySem PyProof.Rows PySem.Spec
theorem fun_okN {CX : CXT} {P : Program} {w : World} {K : PySem.W.Frag} {mg : Str → Option Value} {base : Heap} {x qual : Str} {st : Stmt} {f : Addr} {fd : FuncData} {N ps : List Str} {k : Nat} {sp : Sp} (F : Fun K x qual st f fd) (S : FnScope N ps (defScope st)) (len : ∀ vs H Q E, sp vs H Q E → vs.length = ps.length)
    (go : ∀ (cdv : Value) (A : Around) (outer : List Env) (s : Shared) (H : Hp) (vs : List V) (Q : VK) (E : XK), Room k (A.deeper (envOfC qual (defScope st) s.heap.objs.size f cdv)) → sp vs H Q E →
      ∃ t, PSs (cxOf CX P w K mg base N qual (defScope st) f cdv A outer s H E) (defBody st) t ∧ t { nx := fun _ H' => Q .non H', rt := Q } (start N vs) H) : FnOk P w K mg base CX (k + 1) f fd ps sp := by
  obtain ⟨_, _, _, _, _, _, cdv, _, _, rfl, look, code⟩ := F.ex
  exact fn_of look code S len fun A outer s H vs Q E room z => go cdv A outer s H vs Q E room z
/-- what a def wants of the world and its arguments, what it gives, what it lets out: class, names of fields, fields -/
structure Pm where
  pre : Wd → List D → Prop
  post : List D → D → Prop
  exn : List D → Addr → List Str → List D → Prop := fun _ _ _ _ => False
def spD (K : KT) (p : Pm) : Sp := fun vs H Q E => ∃ W G ds, Ok W G H ∧ IsL K G ds vs ∧ p.pre W ds ∧
  (∀ G' H' v d, p.post ds d → Stp W G H G' H' → Is K G' d v → Q v H') ∧
  (∀ G' H' C dx ns es xs, p.exn ds C ns es → Stp W G H G' H' → G' dx = some (.xd (ns.zip xs)) → ns.length = es.length → IsL K G' es xs → E (.ref C) (some dx) H')
/-- what is let out is taken -/
def XA (c : Cn) (E : XK) (Z : Addr → List Str → List D → Prop) : Prop :=
  ∀ G' H' C dx ns es xs, Z C ns es → c.S G' H' → G' dx = some (.xd (ns.zip xs)) → ns.length = es.length → IsL c.K G' es xs → E (.ref C) (some dx) H'
def WA (c : Cn) (Wx : WX) (Z : List Sl → Addr → List Str → List D → Prop) : Prop :=
  ∀ q' G' H' s' C dx ns es xs, Z q' C ns es → c.S G' H' → c.R G' H' s' q' → G' dx = some (.xd (ns.zip xs)) → ns.length = es.length → IsL c.K G' es xs → Wx (.ref C) (some dx) s' H'
section
variable {c : Cn} {q : List Sl} {P : D → Prop} {ta tb te : TE} {t u : TT} {F : Fn} {ts tu tw : TS} {g : TG}
/-- a call of a def that lets nothing out -/
theorem wp_call {p : Pm} {dvs : List V} {dd : List D} {E : XK} {ta : TA} (hd : ∀ G, IsL c.K G dd dvs) (h : wpA c ta q fun ds => p.pre c.W (ds ++ dd) ∧ (∀ d, p.post (ds ++ dd) d → P d) ∧ ∀ C ns es, ¬ p.exn (ds ++ dd) C ns es) :
    wpE c (tCall (spD c.K p) dvs E ta) q P := fun G H s S R Q hq =>
  h G H s S R _ fun G1 H1 vs ds h1 T1 i1 =>
    ⟨c.W, G1, ds ++ dd, T1.ok, IsL.app i1 (hd G1), h1.1, fun G2 H2 v d a T2 i2 => hq G2 H2 v d (h1.2.1 d a) (T1.trans T2) i2, fun G2 H2 C dx ns es xs a => (h1.2.2 C ns es a).elim⟩
theorem rel_start {K : KT} {W : Wd} {H0 G H : Hp} {ds : List D} {vs : List V} (N : List Str) (h : IsL K G ds vs) : Rel K W H0 G H (L2.start N vs) (ds.map Sl.dat ++ List.replicate (N.length - ds.length) Sl.unk) where
  len := by simp [L2.start, IsL.len h]
  dat := fun i d e => by
    by_cases hi : i < ds.length
    · rw [List.getElem?_append_left (by simpa using hi), List.getElem?_map] at e
      cases z : ds[i]? with
      | none => rw [z] at e; cases e
      | some d' =>
        rw [z] at e; cases e
        obtain ⟨x, a, b⟩ := IsL.get h z
        refine ⟨x, ?_, b⟩
        unfold L2.start
        rw [List.getElem?_append_left (by simpa [IsL.len h] using hi), List.getElem?_map, a]; rfl
    · rw [List.getElem?_append_right (by simpa using Nat.le_of_not_lt hi)] at e
      have := List.mem_of_getElem? e
      rw [List.mem_replicate] at this
      cases this.2
  own := fun i p d e => by
    have := List.mem_of_getElem? e
    simp at this
  sep := fun i j a b p _ e => by
    have := List.mem_of_getElem? e
    simp at this
  obj := fun p dx k ds e => by
    have := List.mem_of_getElem? e
    simp at this
/-- what a def's body is to do -/
abbrev Pm.fn (p : Pm) (ds : List D) : Fn := ⟨fun _ => p.post ds .non, fun _ => p.post ds, fun _ => False, fun _ => False⟩
abbrev slots (ds : List D) (N : List Str) : List Sl := ds.map Sl.dat ++ List.replicate (N.length - ds.length) Sl.unk
theorem run_D {K : KT} {p : Pm} {N : List Str} {vs : List V} {H : Hp} {Q : VK} {W : Wd} {G : Hp} {ds : List D} {ts : TS} (o : Ok W G H) (i : IsL K G ds vs)
    (hq : ∀ G' H' v d, p.post ds d → Stp W G H G' H' → Is K G' d v → Q v H') (h : wpS ⟨K, W, G, H, false⟩ ts (slots ds N) (p.fn ds)) :
    ts { nx := fun _ H' => Q .non H', rt := Q } (L2.start N vs) H :=
  h _ _ G H (Stp.refl o) (rel_start N i) ⟨fun s' H' G' q' a _ S' _ => hq G' H' .non .non a S' rfl, fun v H' G' d _ _ a _ S' i' _ => hq G' H' v d a S' i', fun _ _ _ _ a => a.elim, fun _ _ _ _ a => a.elim⟩
section
variable {Pg : Program} {w : World} {K : KT} {mg : Str → Option Value} {base : Heap}
theorem spD_len {p : Pm} {ps : List Str} (hl : ∀ W ds, p.pre W ds → ds.length = ps.length) : ∀ vs H Q E, spD K p vs H Q E → vs.length = ps.length := fun vs H Q E ⟨W, G, ds, _, i, h, _⟩ => by rw [IsL.len i]; exact hl W ds h
/-- THE RULE: a def keeps its promise if its body does what it is to do upon the slots -/
theorem fn_D {x qual : Str} {st : Stmt} {f : Addr} {fd : FuncData} {N ps : List Str} {k : Nat} {p : Pm} (F : Fun K x qual st f fd) (S : FnScope N ps (defScope st)) (hl : ∀ W ds, p.pre W ds → ds.length = ps.length)
    (h : ∀ (cdv : Value) (A : Around) (outer : List Env) (s : Shared) (E : XK) (W : Wd) (G H : Hp) (ds : List D), Room k (A.deeper (envOfC qual (defScope st) s.heap.objs.size f cdv)) → Ok W G H → p.pre W ds → XA ⟨K, W, G, H, false⟩ E (p.exn ds) →
      ∃ t, PSs (cxOf (L2N.CX Pg w) Pg w K mg base N qual (defScope st) f cdv A outer s H E) (defBody st) t ∧ wpS ⟨K, W, G, H, false⟩ t (slots ds N) (p.fn ds)) : FnOk Pg w K mg base (L2N.CX Pg w) (k + 1) f fd ps (spD K p) := by
  refine fun_okN F S (spD_len hl) fun cdv A outer s H vs Q E hr h1 => ?_
  obtain ⟨W, G, ds, o, i, hp, hq, hx⟩ := h1
  obtain ⟨t, a, b⟩ := h cdv A outer s E W G H ds hr o hp fun G' H' C dx ns es xs z S' e1 e2 e3 => hx G' H' C dx ns es xs z S' e1 e2 e3
  exact ⟨t, a, run_D o i hq b⟩
end
/-- __init__ of an exception class at C: its fields, the last one first -/
def spEx (C : Addr) (mk : List V → List (Str × V)) (n : Nat) : Sp := fun vs H Q _ => ∃ (a : Addr) (ws : List V), vs = .ref a :: ws ∧ ws.length = n ∧ H a = some (exo a C none) ∧
  ∀ (d : Addr) (H' : Hp), H d = none → d ≠ a → H' a = some (exo a C (some d)) → H' d = some (exd d (mk ws)) → (∀ b, b ≠ a → b ≠ d → H' b = H b) → Q .non H'
end
end Ez
set_option Elab.async false
set_option linter.all false
set_option maxRecDepth 100000
namespace Ez
open L2 PySem PyProof.Rows PySem.Spec
abbrev Clause := Value × Option Nat × (Addr → Value → Option Addr → TS)
def offI (D' : Ends) (i : Nat) : Ends := ⟨fun s h => D'.nx (s.set i none) h, D'.rt, fun s h => D'.bk (s.set i none) h, fun s h => D'.ct (s.set i none) h⟩
/-- what clauses, some with a name, wish of what the body lets out -/
def wTry (K : PySem.W.Frag) (Wout : WX) (D' : Ends) : List Clause → WX
  | [] => Wout
  | (cl, none, ts) :: r => fun cls d s H => ∃ b, PySem.W.exmOne K cls cl = some b ∧ (b = true → ∀ a, H a = none → ts a cls d D' s H) ∧ (b = false → wTry K Wout D' r cls d s H)
  | (cl, some i, ts) :: r => fun cls d s H => ∃ b, PySem.W.exmOne K cls cl = some b ∧ (b = true → ∀ a, H a = none → ts a cls d (offI D' i) (s.set i (some (.ref a))) H) ∧ (b = false → wTry K Wout D' r cls d s H)
abbrev SuiteOk (X : Cx) (body : List Stmt) (ts : Addr → Value → Option Addr → TS) : Prop :=
  ∀ (a : Addr) (oe : Obj) (cls : Value) (d : Option Addr) (pn : List (Addr × Obj)), L2N.Zn cls d oe → (∃ vs, oe.data = .fields vs) → PSs (X.suite a ((a, oe) :: pn)) body (ts a cls d)
inductive HdsN (X : Cx) : List ExceptHandler → List Clause → Prop
  | nil : HdsN X [] []
  | plain {x : Str} {cl : Value} {ts : Addr → Value → Option Addr → TS} {b0 : Stmt} {suite : List Stmt} {np p' : Pos} {hds : List ExceptHandler} {l : List Clause} (hc : Names X x cl) (hsu : SuiteOk X (b0 :: suite) ts) (r : HdsN X hds l) :
      HdsN X (.ExceptHandler (some (.Name x np)) none (b0 :: suite) p' :: hds) ((cl, none, ts) :: l)
  | named {x n : Str} {i : Nat} {cl : Value} {ts : Addr → Value → Option Addr → TS} {b0 : Stmt} {suite : List Stmt} {np p' : Pos} {hds : List ExceptHandler} {l : List Clause} (hc : Names X x cl) (hi : X.N[i]? = some n) (hln : X.env.kindOf n = some .local)
      (hsu : SuiteOk X (b0 :: suite) ts) (r : HdsN X hds l) : HdsN X (.ExceptHandler (some (.Name x np)) (some n) (b0 :: suite) p' :: hds) ((cl, some i, ts) :: l)
section
variable {X : Cx} {body : List Stmt} {h0 : ExceptHandler} {hds : List ExceptHandler} {l : List Clause} {pos : Pos} {tb : WX → TS} {Wout : WX}
theorem ps_tryN (hs : X.stack = X.env :: X.outer) (hf : X.env.frame = some X.env.locals) (hN : X.N.Nodup) (tk : L2N.Takes X Wout)
    (hb : ∀ (Wx : WX) (pn : List (Addr × Obj)) (xe : Value → Shared → Prop), L2N.Takes (X.tr pn xe) Wx → PassesOwn (model X.prog X.w) X.A X.env xe → PSs (X.tr pn xe) body (tb Wx))
    (hh : HdsN X (h0 :: hds) l) : PS X (.Try body (h0 :: hds) [] [] pos) (fun D' s H => tb (wTry X.K Wout D' l) D' s H) := by
  constructor
  intro pins s σ H D' I hw
  have ok := I.ok
  have frE : X.A.frames = some (X.env :: X.outer) := by rw [ok.frames, hs]
  refine wpAny_Try_except (wpAny_mono ((hb (wTry X.K Wout D' l) (X.pn ++ pins)
    (fun e s1 => wpAny (model X.prog X.w) X.A (noteFrame e X.env) (fun _ s2 => wpAny (model X.prog X.w) X.A (setFlight e none) (fun _ s3 => wpAny (model X.prog X.w) X.A (handleBy e X.env (h0 :: hds)) (SP X pins D') X.xe s3) X.xe s2) X.xe s1)
    (fun u s' xx => ?caught) PassesOwn.looking).run [] s σ H D' (I.toTry _) hw) (fun f s1 hsp => ?through) fun e s1 he => he)
  case through =>
    cases f with
    | next => obtain ⟨a, b, J, z⟩ := hsp; exact wpAny_execs_nil ⟨a, b, J.ofTry ok, z⟩
    | brk => obtain ⟨a, b, J, z⟩ := hsp; exact ⟨a, b, J.ofTry ok, z⟩
    | cont => obtain ⟨a, b, J, z⟩ := hsp; exact ⟨a, b, J.ofTry ok, z⟩
    | ret u => obtain ⟨v, a, b, J, r, z⟩ := hsp; exact ⟨v, a, b, J.ofTry ok, r, z⟩
  case caught =>
    obtain ⟨a, B, sI, pins', s2, H2, cls, d, rfl, J', nb, up, sky, na, os, ag, w⟩ := xx
    have J := J'.ofTry ok
    rw [hs] at sky
    show wpAny (model X.prog X.w) X.A (noteFrame (Value.ref a) X.env) _ _ _
    refine L2N.Sky.land L2N.Zn.steady frE hf sky fun g3 fl3 up3 => ?_
    have J3 : Inv X pins s2 H2 { s' with heap := g3 } := J.landed nb fl3.1 (up.trans up3) os ag
    obtain ⟨o3, v3, at3, z3, d3⟩ := fl3.there
    have nfr : a ∉ frs (X.env :: X.outer) := fun hm => by
      obtain ⟨_, o', e', hnf⟩ := fl3.2.2.1.mem hm
      rw [at3] at e'; cases e'; exact hnf _ d3
    have nL : a ≠ X.env.locals := fun z => nfr (List.mem_filterMap.mpr ⟨X.env, List.mem_cons_self, hf.trans (congrArg some z.symm)⟩)
    have nF : a ∉ X.fs := by
      intro hm
      obtain ⟨e, he, z⟩ := List.mem_filterMap.mp hm
      exact nfr (List.mem_filterMap.mpr ⟨e, .tail _ he, z⟩)
    have S3 := J3.suite at3 d3 na nL nF
    have test : ∀ {x : Str} {cl : Value} {np : Pos} {Q E : Value → Shared → Prop}, Names X x cl → Q cl { s' with heap := g3 } → wpAny (model X.prog X.w) (X.A.mark (some (.ref a))) (eval (.Name x np) X.env) Q E { s' with heap := g3 } := by
      intro x cl np Q E hc z
      obtain ⟨hg, hdb, hm | ⟨hm, hv, hnn⟩⟩ := hc
      · exact ld_glob (X := X.suite a ((a, o3) :: (X.pn ++ pins))) S3 hg hm z hdb
      · exact ld_blt (X := X.suite a ((a, o3) :: (X.pn ++ pins))) S3 hg hm hv z hnn hdb
    have kind : PySem.W.Looks (model X.prog X.w) g3 (typeOf (.ref a)) cls := fun A Q E s k z => wpAny_typeOf_ref (k _ _ at3) (by rw [z3.1]; exact z)
    have go : ∀ {hd2 : List ExceptHandler} {l2 : List Clause}, HdsN X hd2 l2 → wTry X.K Wout D' l2 cls d s2 H2 → wpAny (model X.prog X.w) X.A (handleBy (.ref a) X.env hd2) (SP X pins D') X.xe { s' with heap := g3 } := by
      intro hd2 l2 hk
      induction hk with
      | nil =>
        intro w
        refine wpAny_handleBy_nil ?_
        obtain ⟨_, _, _, oe, vs, T, oT, _, he, _, hd, h1, _⟩ := id fl3
        unfold PySem.passOn
        apply wpAny_bind (wpAny_field he hd h1 ?_)
        rw [if_neg (show ¬ ((Value.ref T == Value.none) = true) by simp)]
        have fin : wpAny (model X.prog X.w) X.A (setFlight (.ref a) X.env.frame) (fun _ s4 => wpAny (model X.prog X.w) X.A (throw (.ref a) : Sem Flow) (SP X pins D') X.xe s4) X.xe { s' with heap := g3 } := by
          rw [hf]
          exact HandSPX.setFlight_upZ fl3 fun g4 hh4 up4 => wpAny_throw (tk _ _ ⟨a, B, sI, pins, s2, H2, cls, d, rfl, J, nb, (up.trans up3).trans up4, .inr (.inr (by rw [hs]; exact hh4)), na, os, ag, w⟩)
        first
          | exact (wpAny_bind (wpAny_pure (wpAny_bind fin)))
          | exact wpAny_bind fin
      | @plain x cl ts b0 suite np p' hds2 l2 hc hsu r ih =>
        intro w
        obtain ⟨b, hb1, yes, no⟩ := w
        refine wpAny_handleBy_cons (codeAny_handlers_test (test hc ((PySem.W.exm_one (M := model X.prog X.w) J3.kIn kind hb1).here ?_))) (by intro z; cases z)
        cases b with
        | false => exact ih (no rfl)
        | true =>
          refine codeAny_handlers_suite (HandSPX.lands_againZ fl3 fun g4 fl4 up4 => ?_)
          have J4 : Inv X pins s2 H2 { s' with heap := g4 } := J.landed nb fl4.1 ((up.trans up3).trans up4) os ag
          obtain ⟨o4, v4, at4, z4, d4⟩ := fl4.there
          refine wpAny_mono ((hsu a o4 cls d (X.pn ++ pins) z4 ⟨_, d4⟩).run [] _ _ H2 _ (J4.suite at4 d4 na nL nF) (yes rfl a na)) (fun f s6 hsp => ?_) fun _ _ z => z.elim
          cases f with
          | next => obtain ⟨m, n, S6, z⟩ := hsp; exact ⟨_, _, S6.unsuite ok, z⟩
          | brk => obtain ⟨m, n, S6, z⟩ := hsp; exact ⟨_, _, S6.unsuite ok, z⟩
          | cont => obtain ⟨m, n, S6, z⟩ := hsp; exact ⟨_, _, S6.unsuite ok, z⟩
          | ret u => obtain ⟨v, m, n, S6, r6, z⟩ := hsp; exact ⟨_, _, _, S6.unsuite ok, r6, z⟩
      | @named x n i cl ts b0 suite np p' hds2 l2 hc hi hln hsu r ih =>
        intro w
        obtain ⟨b, hb1, yes, no⟩ := w
        refine wpAny_handleBy_cons (codeAny_handlers_test (test hc ((PySem.W.exm_one (M := model X.prog X.w) J3.kIn kind hb1).here ?_))) (by intro z; cases z)
        cases b with
        | false => exact ih (no rfl)
        | true =>
          refine codeAny_handlers_suite_as (HandSPX.lands_againZ fl3 fun g4 fl4 up4 => ?_)
          have J4 : Inv X pins s2 H2 { s' with heap := g4 } := J.landed nb fl4.1 ((up.trans up3).trans up4) os ag
          obtain ⟨o4, v4, at4, z4, d4⟩ := fl4.there
          refine store_ok (X := X.suite a ((a, o4) :: (X.pn ++ pins))) (v := .ref a) (J4.suite at4 d4 na nL nF) hN hi (Or.inl hln) rfl (fun s5 S5 => ?_) (.inr hln)
          refine wpAny_mono ((hsu a o4 cls d (X.pn ++ pins) z4 ⟨_, d4⟩).run [] s5 _ H2 _ S5 (yes rfl a na)) (fun f s6 hsp => ?_) fun _ _ z => z.elim
          have off : ∀ {t6 : L2.St} {H6 : Hp} {Q : Shared → Prop}, Inv (X.suite a ((a, o4) :: (X.pn ++ pins))) [] t6 H6 s6 → (∀ s7, Inv X pins (t6.set i none) H6 s7 → Q s7) →
              wpAny (model X.prog X.w) X.A (do bindName X.env n .none; unbindBehindTheSuite X.env n p') (fun _ s7 => Q s7) X.xe s6 := fun S6 k => gone_ok (S6.unsuite ok) hN hi hln k
          cases f with
          | next => obtain ⟨m, k, S6, z⟩ := hsp; exact off S6 fun s7 J7 => ⟨_, _, J7, z⟩
          | brk => obtain ⟨m, k, S6, z⟩ := hsp; exact off S6 fun s7 J7 => ⟨_, _, J7, z⟩
          | cont => obtain ⟨m, k, S6, z⟩ := hsp; exact off S6 fun s7 J7 => ⟨_, _, J7, z⟩
          | ret u => obtain ⟨v, m, k, S6, r6, z⟩ := hsp; exact off S6 fun s7 J7 => ⟨_, _, _, J7, r6, z⟩
    exact go hh w
end
section
variable {c : Cn} {q : List Sl} {P : D → Prop} {ta tb te : TE} {t u : TT} {F : Fn} {ts tu tw : TS} {g : TG}
def offF (F : Fn) (i : Nat) : Fn := ⟨fun q => F.nx (q.set i .unk), F.rt, fun q => F.bk (q.set i .unk), fun q => F.ct (q.set i .unk)⟩
def hdD (c : Cn) (F : Fn) : List Clause → List Sl → Addr → List Str → List D → Prop
  | [], _, _, _, _ => False
  | (cl, none, ts) :: r, q, C, ns, es => ∃ b, PySem.W.exmOne c.K (.ref C) cl = some b ∧ (b = true → ∀ a dx, wpS c (ts a (.ref C) (some dx)) q F) ∧ (b = false → hdD c F r q C ns es)
  | (cl, some i, ts) :: r, q, C, ns, es => ∃ b, PySem.W.exmOne c.K (.ref C) cl = some b ∧
      (b = true → i < q.length ∧ ∀ a dx, wpS c (ts a (.ref C) (some dx)) (q.set i (.dat (.exc a dx C ns es))) (offF F i)) ∧ (b = false → hdD c F r q C ns es)
theorem Stp.base {W : Wd} {G0 H0 G H G' H' : Hp} (s : Stp W G0 H0 G H) (t : Stp W G0 H0 G' H') (e : Ex G G') : Stp W G H0 G' H' :=
  ⟨t.ok, e, fun a o z => (t.fresh a o z).imp (fun y => s.ex a o y) id, t.kp, t.th⟩
theorem Stp.unbase {W : Wd} {G0 H0 G H G' H' : Hp} (s : Stp W G0 H0 G H) (t : Stp W G H0 G' H') : Stp W G0 H0 G' H' :=
  ⟨t.ok, s.ex.trans t.ex, fun a o z => (t.fresh a o z).elim (fun y => s.fresh a o y) .inr, t.kp, t.th⟩
theorem ws_try {l : List Clause} {tb : WX → TS} {Wout : WX} (h : ∀ (G1 : Hp) (Wx : WX), WA { c with G0 := G1 } Wx (hdD { c with G0 := G1 } F l) → (∀ E Z, XA c E Z → XA { c with G0 := G1 } E Z) → wpS { c with G0 := G1 } (tb Wx) q F) :
    wpS c (fun D' s H => tb (wTry c.K Wout D' l) D' s H) q F := fun D' s G H S R p => by
  have base : Stp c.W G c.H0 G H := S.base S (Ex.refl G)
  have post : ∀ {G1 : Hp}, Ex G G1 → Post { c with G0 := G } D' F G1 := fun {G1} e =>
    ⟨fun s' H' G' q' a b S' R' => p.nx s' H' G' q' a (e.trans b) (S.unbase S') R', fun v H' G' d m n a b S' => p.rt v H' G' d m n a (e.trans b) (S.unbase S'),
      fun s' H' G' q' a b S' R' => p.bk s' H' G' q' a (e.trans b) (S.unbase S') R', fun s' H' G' q' a b S' R' => p.ct s' H' G' q' a (e.trans b) (S.unbase S') R'⟩
  refine h G (wTry c.K Wout D' l) (fun q' G' H' s' C dx ns es xs z S' R' e1 e2 e3 => ?_) (fun E Z x G' H' C dx ns es xs z S' => x G' H' C dx ns es xs z (S.unbase S')) D' s G H base R (post (Ex.refl G))
  clear h
  induction l with
  | nil => exact z.elim
  | cons k l ih =>
    obtain ⟨cl, oi, ts⟩ := k
    cases oi with
    | none =>
      obtain ⟨b, hb, yes, no⟩ := z
      exact ⟨b, hb, fun y a _ => yes y a dx D' s' G' H' S' R' (post S'.ex), fun n => ih (no n)⟩
    | some i =>
      obtain ⟨b, hb, yes, no⟩ := z
      refine ⟨b, hb, fun y a _ => ?_, fun n => ih (no n)⟩
      obtain ⟨hi, yes⟩ := yes y
      have pp := post S'.ex
      refine yes a dx (offI D' i) _ G' H' S' (R'.setD (d := .exc a dx C ns es) ⟨xs, rfl, e1, e2, e3⟩ hi) ?_
      exact ⟨fun s2 H2 G2 q2 a b S2 R2 => pp.nx _ H2 G2 _ a b S2 R2.setN, pp.rt, fun s2 H2 G2 q2 a b S2 R2 => pp.bk _ H2 G2 _ a b S2 R2.setN, fun s2 H2 G2 q2 a b S2 R2 => pp.ct _ H2 G2 _ a b S2 R2.setN⟩
theorem zip_at {K : KT} {G : Hp} {f : Str} {e : D} : ∀ {ns : List Str} {es : List D} {xs : List V}, IsL K G es xs → (ns.zip es).lookup f = some e → ∃ v, (ns.zip xs).lookup f = some v ∧ Is K G e v
  | [], _, _, _, hh => by cases hh
  | n :: ns, [], _, _, h => by simp at h
  | n :: ns, e0 :: es, _, ⟨x, r, rfl, i1, i2⟩, h => by
    rw [List.zip_cons_cons, List.lookup_cons] at h ⊢
    cases z : f == n with
    | true =>
      rw [z] at h
      have : e0 = e := by simpa using h
      subst this
      exact ⟨x, rfl, i1⟩
    | false =>
      rw [z] at h
      exact zip_at i2 (by simpa using h)
/-- a field of the exception that the suite holds -/
theorem wp_xf {a dx C : Addr} {f : Str} (h : wpE c te q fun x => ∃ ns es e, x = .exc a dx C ns es ∧ (ns.zip es).lookup f = some e ∧ P e) : wpE c (tXf a (.ref C) (some dx) C f te) q P := fun G H s S R Q hq =>
  h G H s S R _ fun G1 H1 v d h1 T1 i1 => by
    obtain ⟨ns, es, e, rfl, hl, hp⟩ := h1
    obtain ⟨xs, rfl, e1, e2, e3⟩ := i1
    obtain ⟨v, l2, i2⟩ := zip_at e3 hl
    exact ⟨rfl, rfl, dx, _, v, rfl, T1.ok.sub _ _ e1, l2, hq G1 H1 v e hp T1 i2⟩
end
end Ez
set_option Elab.async false
set_option linter.all false
set_option maxRecDepth 100000
namespace Ez
open L2 PySem PyProof.Rows PySem.Spec
theorem hu64 {A : Around} {k : Nat} (h : Room k A) : A.units + 64 < cLine := by
  have := h.un
  omega
section
variable {X : Cx} {a : Expr} {ta : TE} {pos : Pos}
/-- the last part of a chain of and, of or, as a value -/
theorem pe_and1 (h : PE X a ta) : PE X (.BoolOp .And [a] pos) ta := ⟨fun pins s σ H Q I w => by
  have := h.run pins s σ H Q I w
  first
    | exact this
    | (unfold eval; exact this)⟩
theorem pe_or1 (h : PE X a ta) : PE X (.BoolOp .Or [a] pos) ta := ⟨fun pins s σ H Q I w => by
  have := h.run pins s σ H Q I w
  first
    | exact this
    | (unfold eval; exact this)⟩
end
def D.emp : D → Option Bool
  | .lst l => some l.isEmpty
  | .tup l => some l.isEmpty
  | .non => some true
  | .bl b => some (!b)
  | .int i => some (i == 0)
  | _ => none
theorem Is.tru {K : KT} {G H : Hp} (e : Ex G H) : ∀ {d : D} {v : V} {b : Bool}, D.emp d = some b → Is K G d v → TruV K v H (!b)
  | .lst l, v, b, hb, ⟨a, xs, p, h1, h2⟩ => by
    cases hb; rw [p]
    refine .inl ⟨xs, h1.sq e, ?_⟩
    have := IsL.len h2
    cases l <;> cases xs <;> first | rfl | cases this
  | .tup l, v, b, hb, ⟨a, xs, p, h1, h2⟩ => by
    cases hb; rw [p]
    refine .inr (.inl ⟨xs, h1.sq e, ?_⟩)
    have := IsL.len h2
    cases l <;> cases xs <;> first | rfl | cases this
  | .non, v, b, hb, h => by cases hb; cases (show _ = V.non from h); exact rfl
  | .bl x, v, b, hb, h => by cases hb; cases (show _ = V.bl x from h); exact (Bool.not_not x)
  | .int x, v, b, hb, h => by cases hb; cases (show _ = V.int x from h); exact rfl
section
variable {c : Cn} {q : List Sl} {P : D → Prop} {ta : TE} {B : Bool → Prop}
theorem wp_notT (h : wpE c ta q fun x => ∃ b, D.emp x = some b ∧ P (.bl b)) : wpE c (tNotT c.K ta) q P := fun G H s S R Q hq =>
  h G H s S R _ fun G1 H1 v x h1 T1 i1 => by
    obtain ⟨b, hb, hp⟩ := h1
    exact ⟨!b, Is.tru T1.ok.sub hb i1, by rw [Bool.not_not]; exact hq G1 H1 _ _ hp T1 rfl⟩
theorem wt_tru (h : wpE c ta q fun x => ∃ b, D.emp x = some b ∧ B (!b)) : wpT c (fun σ H Q => ta σ H fun x H' => ∃ k, TruV c.K x H' k ∧ Q k H') q B := fun G H s S R Q hq =>
  h G H s S R _ fun G1 H1 v x h1 T1 i1 => by
    obtain ⟨b, hb, hp⟩ := h1
    exact ⟨!b, Is.tru T1.ok.sub hb i1, hq G1 H1 _ hp T1⟩
end
end Ez
set_option Elab.async false
set_option linter.all false
namespace Ez
open L2 PySem PyProof.Rows PySem.Spec
theorem kit_NoneType_bool : kitB "NoneType" "bool" = some false := by decide +kernel
theorem kit_NoneType_int : kitB "NoneType" "int" = some false := by decide +kernel
theorem kit_NoneType_str : kitB "NoneType" "str" = some false := by decide +kernel
theorem kit_NoneType_tuple : kitB "NoneType" "tuple" = some false := by decide +kernel
theorem kit_NoneType_list : kitB "NoneType" "list" = some false := by decide +kernel
theorem kit_bool_bool : kitB "bool" "bool" = some true := by decide +kernel
theorem kit_bool_int : kitB "bool" "int" = some true := by decide +kernel
theorem kit_bool_str : kitB "bool" "str" = some false := by decide +kernel
theorem kit_bool_tuple : kitB "bool" "tuple" = some false := by decide +kernel
theorem kit_bool_list : kitB "bool" "list" = some false := by decide +kernel
theorem kit_int_bool : kitB "int" "bool" = some false := by decide +kernel
theorem kit_int_int : kitB "int" "int" = some true := by decide +kernel
theorem kit_int_str : kitB "int" "str" = some false := by decide +kernel
theorem kit_int_tuple : kitB "int" "tuple" = some false := by decide +kernel
theorem kit_int_list : kitB "int" "list" = some false := by decide +kernel
theorem kit_str_bool : kitB "str" "bool" = some false := by decide +kernel
theorem kit_str_int : kitB "str" "int" = some false := by decide +kernel
theorem kit_str_str : kitB "str" "str" = some true := by decide +kernel
theorem kit_str_tuple : kitB "str" "tuple" = some false := by decide +kernel
theorem kit_str_list : kitB "str" "list" = some false := by decide +kernel
theorem kit_tuple_bool : kitB "tuple" "bool" = some false := by decide +kernel
theorem kit_tuple_int : kitB "tuple" "int" = some false := by decide +kernel
theorem kit_tuple_str : kitB "tuple" "str" = some false := by decide +kernel
theorem kit_tuple_tuple : kitB "tuple" "tuple" = some true := by decide +kernel
theorem kit_tuple_list : kitB "tuple" "list" = some false := by decide +kernel
theorem kit_list_bool : kitB "list" "bool" = some false := by decide +kernel
theorem kit_list_int : kitB "list" "int" = some false := by decide +kernel
theorem kit_list_str : kitB "list" "str" = some false := by decide +kernel
theorem kit_list_tuple : kitB "list" "tuple" = some false := by decide +kernel
theorem kit_list_list : kitB "list" "list" = some true := by decide +kernel
end Ez
namespace Ez
theorem br_t {A B : Prop} (h : A) : (true = true → A) ∧ (true = false → B) := ⟨fun _ => h, fun e => Bool.noConfusion e⟩
theorem br_f {A B : Prop} (h : B) : (false = true → A) ∧ (false = false → B) := ⟨fun e => Bool.noConfusion e, fun _ => h⟩
theorem br_t2 {A B : Prop} (h : B) : (true = false → A) ∧ (true = true → B) := ⟨fun e => Bool.noConfusion e, fun _ => h⟩
theorem br_f2 {A B : Prop} (h : A) : (false = false → A) ∧ (false = true → B) := ⟨fun _ => h, fun e => Bool.noConfusion e⟩
theorem br_d {p : Prop} [Decidable p] {A B : Prop} (h1 : p → A) (h2 : ¬ p → B) : (decide p = true → A) ∧ (decide p = false → B) := ⟨fun e => h1 (of_decide_eq_true e), fun e => h2 (of_decide_eq_false e)⟩
theorem br_d2 {p : Prop} [Decidable p] {A B : Prop} (h1 : p → A) (h2 : ¬ p → B) : (decide p = false → B) ∧ (decide p = true → A) := ⟨fun e => h2 (of_decide_eq_false e), fun e => h1 (of_decide_eq_true e)⟩
theorem br_b {b : Bool} {A B : Prop} (h1 : b = true → A) (h2 : b = false → B) : (b = true → A) ∧ (b = false → B) := ⟨h1, h2⟩
theorem br_b2 {b : Bool} {A B : Prop} (h1 : b = true → A) (h2 : b = false → B) : (b = false → B) ∧ (b = true → A) := ⟨h2, h1⟩
end Ez
set_option Elab.async false
set_option linter.all false
set_option maxRecDepth 100000
namespace Ez
open L2 PySem PyProof.Rows PySem.Spec
def Bd (n : Nat) (i : Int) : Prop := i.natAbs < 2 ^ n
theorem Bd.mono {n m : Nat} {i : Int} (h : Bd n i) (e : n ≤ m) : Bd m i := Nat.lt_of_lt_of_le h (Nat.pow_le_pow_right (by decide) e)
theorem Bd.mul {n m : Nat} {i j : Int} (h : Bd n i) (k : Bd m j) : Bd (n + m) (i * j) := wide_lt h k
theorem Bd.add {n : Nat} {i j : Int} (h : Bd n i) (k : Bd n j) : Bd (n + 1) (i + j) := by
  unfold Bd at *
  have := Int.natAbs_add_le i j
  rw [Nat.pow_succ]; omega
theorem Bd.sub {n : Nat} {i j : Int} (h : Bd n i) (k : Bd n j) : Bd (n + 1) (i - j) := by
  unfold Bd at *
  have := Int.natAbs_sub_le i j
  rw [Nat.pow_succ]; omega
theorem Bd.neg {n : Nat} {i : Int} (h : Bd n i) : Bd n (-i) := by
  unfold Bd at *; rw [Int.natAbs_neg]; exact h
theorem Bd.le {n : Nat} {i j : Int} (h : Bd n j) (e : i.natAbs ≤ j.natAbs) : Bd n i := Nat.lt_of_le_of_lt e h
theorem Bd.lg {n : Nat} {i : Int} (h : Bd n i) (h0 : 0 < n) : i.natAbs.log2 < n := PySem.Flt.log2_lt_of h0 h
theorem CMulW.of {n m : Nat} {i j : Int} (h : Bd n i) (k : Bd m j) (e : n + m ≤ 999000) : CMulW i j := by
  have h' := Bd.lg (h.mono (Nat.le_succ n)) (Nat.succ_pos n)
  have k' := Bd.lg (k.mono (Nat.le_succ m)) (Nat.succ_pos m)
  unfold CMulW
  omega
theorem CDivW.of {n : Nat} {i j : Int} (h : 0 < j) (k : Bd n j) (e : n ≤ 9000) : CDivW i j := by
  refine ⟨h, ?_⟩
  by_cases h0 : n = 0
  · subst h0
    unfold Bd at k
    have : j.natAbs < 1 := k
    omega
  · have := Bd.lg k (by omega)
    omega
/-- // by any divisor but 0 -/
def CDivZ (_ j : Int) : Prop := j ≠ 0 ∧ j.natAbs.log2 < 9000
theorem CDivZ.of {n : Nat} {i j : Int} (h : j ≠ 0) (k : Bd n j) (e : n ≤ 9000) : CDivZ i j := by
  refine ⟨h, ?_⟩
  by_cases h0 : n = 0
  · subst h0
    unfold Bd at k
    have : j.natAbs < 1 := k
    omega
  · have := Bd.lg k (by omega)
    omega
theorem op_fdivZ {X : Cx} : OpR X (binaryOp .FloorDiv) (rI CDivZ fun i j => .int (i.fdiv j)) := opI fun _ _ _ _ _ _ _ hc q => floordiv_int hc.1 q (.inl (PyProof.noPylong_of_log2 hc.2))
end Ez
namespace Ez
open L2 PySem PyProof.Rows PySem.Spec
abbrev X0 : List D → Addr → List Str → List D → Prop := fun _ _ _ _ => False
abbrev Pm.f2 (pre : Wd → D → D → Prop) (post : D → D → D → Prop) (exn : List D → Addr → List Str → List D → Prop := X0) : Pm :=
  { pre := fun W ds => match ds with | [a, b] => pre W a b | _ => False, post := fun ds r => match ds with | [a, b] => post a b r | _ => False, exn := exn }
theorem Pm.l2 {pre : Wd → D → D → Prop} {post : D → D → D → Prop} {exn : List D → Addr → List Str → List D → Prop} {W : Wd} {ds : List D} (h : (Pm.f2 pre post exn).pre W ds) : ∃ a b, ds = [a, b] ∧ pre W a b := by
  match ds, h with
  | [a, b], h => exact ⟨a, b, rfl, h⟩
/-- a default's datum -/
def dOf : V → D
  | .non => .non
  | .bl b => .bl b
  | .int i => .int i
  | .str x => .str x
  | _ => .non
def scaV : V → Bool
  | .non => true
  | .bl _ => true
  | .int _ => true
  | .str _ => true
  | _ => false
theorem isDef {K : KT} {G : Hp} : ∀ {vs : List V}, vs.all scaV = true → IsL K G (vs.map dOf) vs
  | [], _ => rfl
  | v :: vs, h => by
    have h2 := Bool.and_eq_true_iff.mp (show (scaV v && vs.all scaV) = true from h)
    refine ⟨v, vs, rfl, ?_, isDef h2.2⟩
    cases v <;> first | exact rfl | cases h2.1
section
variable {c : Cn} {q : List Sl} {P : D → Prop} {ta : TA}
theorem wp_call0 {p : Pm} {dvs : List V} {E : XK} (hd : dvs.all scaV = true) (h : wpA c ta q fun ds => p.pre c.W (ds ++ dvs.map dOf) ∧ (∀ d, p.post (ds ++ dvs.map dOf) d → P d) ∧ ∀ C ns es, ¬ p.exn (ds ++ dvs.map dOf) C ns es) :
    wpE c (tCall (spD c.K p) dvs E ta) q P := wp_call (fun _ => isDef hd) h
end
end Ez
namespace Ez
open L2 PySem PyProof.Rows PySem.Spec
section
variable {c : Cn} {q : List Sl}
theorem wg_lst {gs : TGs} {n : Nat} {ds : List D} {N : List Sl → Prop} (hn : ds.length = n) (h : wpGs c gs ds q N) : wpG c (gLst c.K n gs) (.lst ds) q N := fun G H s v S R hv Q hq => by
  obtain ⟨a, xs, rfl, h1, h2⟩ := hv
  exact ⟨a, xs, rfl, h1.sq S.ok.sub, by rw [IsL.len h2, hn], h G H s xs S R h2 Q hq⟩
theorem ww_lst {vs : List Nat} {gs : TGs} {n : Nat} {ds : List D} {N : List Sl → Prop} (hn : ds.length = n) (h : wpWs c gs vs ds q N) : wpW c (gLst c.K n gs) vs (.lst ds) q N := fun G H s v S R hv Q hq => by
  obtain ⟨a, xs, rfl, h1, h2⟩ := hv
  exact ⟨a, xs, rfl, h1.sq S.sub, by rw [IsL.len h2, hn], h G H s xs S R h2 Q hq⟩
end
end Ez
namespace Ez
open L2 PySem PyProof.Rows PySem.Spec
theorem atI_cons0 {α : Type} {x : α} {xs : List α} : atI (x :: xs) 0 = some x := by
  unfold atI ixN
  rw [if_pos (Int.le_refl 0), if_pos (by rw [List.length_cons]; omega)]
  rfl
end Ez
set_option Elab.async false
set_option linter.all false
set_option maxRecDepth 100000
namespace Ez
open L2 PySem PyProof.Rows PySem.Spec
theorem Bd.lit {n : Nat} {i : Int} (h : decide (i.natAbs < 2 ^ n) = true) : Bd n i := by
  unfold Bd
  exact of_decide_eq_true h
theorem Bd.of_range {n : Nat} {i m : Int} (h0 : 0 ≤ i) (h : i < m) (k : Bd n m) : Bd n i := k.le (by omega)
section
variable {c : Cn} {P : D → Prop}
/-- a rest whose value does not matter -/
theorem od_modF {i j : Int} (hj : 0 < j) (k : ∀ m, 0 ≤ m → m < j → P (.int m)) : opD c (rI (fun _ j => 0 < j) fun i j => .int (i % j)) (.int i) (.int j) P :=
  od_ci hj (k _ (Int.emod_nonneg _ (by omega)) (Int.emod_lt_of_pos _ hj))
theorem od_divF {i j : Int} {n : Nat} (hj : 0 < j) (zj : Bd n j) (hn : n ≤ 9000) (k : ∀ m, (0 ≤ i → 0 ≤ m ∧ m ≤ i) → m.natAbs ≤ i.natAbs → P (.int m)) : opD c (rI CDivW fun i j => .int (i / j)) (.int i) (.int j) P :=
  od_ci (CDivW.of hj zj hn) (k _ (fun h => ⟨Int.ediv_nonneg h (by omega), Int.ediv_le_self _ h⟩) (Int.natAbs_ediv_le_natAbs _ _))
end
def handD (cells : List Int) (i r t : Int) : List D := [.lst (cells.map D.int), .int i, .int r, .int t]
structure HandOk (cells : List Int) (i r t : Int) : Prop where
  many : cells.length ≤ 63
  i0 : 0 ≤ i
  i1 : i ≤ (cells.length : Int)
  r0 : 0 ≤ r
  t0 : 0 ≤ t
  t1 : t < 2147483549
  c0 : ∀ x ∈ cells, 0 ≤ x
/-- another kind of hand: a count of the draws, a seed -/
def handD2 (cells : List Int) (i r n s : Int) : List D := [.lst (cells.map D.int), .int i, .int r, .int n, .int s]
structure HandOk2 (cells : List Int) (i r n s : Int) : Prop where
  many : cells.length ≤ 63
  i0 : 0 ≤ i
  i1 : i ≤ (cells.length : Int)
  r0 : 0 ≤ r
  n0 : 0 ≤ n
  s0 : 0 ≤ s
  s1 : s < 2147483629
  c0 : ∀ x ∈ cells, 0 ≤ x
/-- what a hand holds, by its kind -/
def HInv (k : Nat) (ds : List D) : Prop := match k with
  | 0 => ∃ cells i r t, ds = handD cells i r t ∧ HandOk cells i r t
  | _ => ∃ cells i r n s, ds = handD2 cells i r n s ∧ HandOk2 cells i r n s
def HandW (K : KT) (p : Addr) : Wd where
  M := fun a => a = p
  J := fun G H => ∃ xs ds, H p = some (.lst xs) ∧ IsL K G ds xs ∧ HInv K.hk ds
  stb := fun ⟨xs, ds, a, b, j⟩ e h => ⟨xs, ds, by rw [h p rfl]; exact a, IsL.mono e _ b, j⟩
/-- the heap but for one place -/
def butH (H : Hp) (p : Addr) : Hp := fun a => if a = p then none else H a
theorem butH_ne {H : Hp} {p a : Addr} (h : a ≠ p) : butH H p a = H a := if_neg h
theorem butH_eq {H : Hp} {p : Addr} : butH H p p = none := if_pos rfl
section
variable {K : KT} {G H G' H' : Hp} {p : Addr}
theorem hand_start (o : Ok (HandW K p) G H) : Stp W0 G (butH H p) G H := by
  refine ⟨⟨o.sub, fun _ m => m.elim, fun _ m => m.elim, trivial⟩, Ex.refl G, fun _ _ e => .inl e, fun a u _ e => ?_, fun a u e => ?_⟩
  · by_cases z : a = p
    · rw [z, butH_eq] at e; cases e
    · rw [butH_ne z] at e; exact e
  · by_cases z : a = p
    · rw [z, butH_eq] at e; cases e
    · rw [butH_ne z] at e; exact ⟨u, e⟩
theorem hand_end (o : Ok (HandW K p) G H) (t : Stp W0 G (butH H p) G' H') (hg : G' p = none) (j : (HandW K p).J G' H') : Stp (HandW K p) G H G' H' := by
  obtain ⟨xs, ds, a, b, h⟩ := id j
  refine ⟨⟨t.ok.sub, fun a m => by cases (show a = p from m); exact hg, fun a m => by cases (show a = p from m); exact ⟨_, by assumption⟩, j⟩, t.ex, fun a u e => ?_, fun a u n e => ?_, fun a u e => ?_⟩
  · rcases t.fresh a u e with y | y
    · exact .inl y
    · by_cases z : a = p
      · rw [z, hg] at e; cases e
      · rw [butH_ne z] at y; exact .inr y
  · have z : a ≠ p := n
    exact t.kp a u id (by rw [butH_ne z]; exact e)
  · by_cases z : a = p
    · rw [z]; exact ⟨_, by assumption⟩
    · exact t.th a u (by rw [butH_ne z]; exact e)
end
end Ez
namespace Ez
open L2 PySem PyProof.Rows PySem.Spec
def HandIn (k : Nat) (a : Addr) (q : List Sl) : Prop := ∃ ds, q[0]? = some (.own a ds) ∧ HInv k ds
section
variable {Pg : Program} {w : World} {K : KT} {mg : Str → Option Value} {base : Heap}
/-- a def that draws from a hand by itself: upon its slots the hand is a list of its own -/
theorem fn_hand {x qual : Str} {st : Stmt} {f : Addr} {fd : FuncData} {N ps : List Str} {k : Nat} {p : Pm} (F : Fun K x qual st f fd) (S : FnScope N ps (defScope st)) (hl : ∀ W ds, p.pre W ds → ds.length = ps.length)
    (hpre : ∀ W ds, p.pre W ds → ∃ a es, ds = .adr a :: es ∧ W = HandW K a)
    (h : ∀ (cdv : Value) (A : Around) (outer : List Env) (s : Shared) (E : XK) (G H : Hp) (a : Addr) (es ds : List D), Room k (A.deeper (envOfC qual (defScope st) s.heap.objs.size f cdv)) → p.pre (HandW K a) (.adr a :: es) → HInv K.hk ds →
      ∃ tm, PSs (cxOf (L2N.CX Pg w) Pg w K mg base N qual (defScope st) f cdv A outer s H E) (defBody st) tm ∧
        wpS ⟨K, W0, G, butH H a, false⟩ tm (.own a ds :: (es.map Sl.dat ++ List.replicate (N.length - (es.length + 1)) Sl.unk)) ⟨fun q => HandIn K.hk a q ∧ p.post (.adr a :: es) .non, fun q d => HandIn K.hk a q ∧ p.post (.adr a :: es) d, fun _ => False, fun _ => False⟩) :
    FnOk Pg w K mg base (L2N.CX Pg w) (k + 1) f fd ps (spD K p) := by
  refine fun_okN F S (spD_len hl) fun cdv A outer s H vs Q E hr h1 => ?_
  obtain ⟨W, G, ds, o, iv, hp, hq, hx⟩ := h1
  obtain ⟨a, es, rfl, rfl⟩ := hpre W ds hp
  obtain ⟨xs, hds, ha, hi, ok⟩ := id o.inv
  obtain ⟨tm, d1, d2⟩ := h cdv A outer s E G H a es hds hr hp ok
  obtain ⟨_, ys, rfl, e1, i2⟩ := iv
  cases (show _ = V.ref a from e1)
  have no : ∀ {j : Nat} {a' : Addr} {e : List D}, ((es.map Sl.dat ++ List.replicate (N.length - (es.length + 1)) Sl.unk))[j]? = some (Sl.own a' e) → False := fun {j a' e} z => by
    have := List.mem_of_getElem? z
    simp at this
  have fin : ∀ {G' H' : Hp} {s' : L2.St} {q' : List Sl}, Stp W0 G (butH H a) G' H' → Rel K W0 (butH H a) G' H' s' q' → HandIn K.hk a q' → Stp (HandW K a) G H G' H' := by
    intro G' H' s' q' t' r' hi
    obtain ⟨ds', z, ok'⟩ := hi
    obtain ⟨xs', q1, q2, q3, q4, q5, q6⟩ := r'.own 0 a _ z
    exact hand_end o t' q3 ⟨xs', ds', q2, q6, ok'⟩
  refine ⟨tm, d1, d2 _ _ G H (hand_start o) ?_ ⟨fun s' H' G' q' z _ S' R' => hq G' H' .non .non z.2 (fin S' R' z.1) rfl, fun v H' G' d s' q' z _ S' i' R' => hq G' H' v d z.2 (fin S' R' z.1) i', fun _ _ _ _ z => z.elim, fun _ _ _ _ z => z.elim⟩⟩
  have r0 : Rel K W0 (butH H a) G H (L2.start N (.ref a :: ys)) ((D.adr a :: es).map Sl.dat ++ List.replicate (N.length - (D.adr a :: es).length) Sl.unk) := rel_start N ⟨_, ys, rfl, rfl, i2⟩
  refine ⟨r0.len, fun j d e => ?_, fun j a' e z => ?_, fun j l a' b' p' n za zb => ?_, fun p' dx k ds z => by cases z⟩
  · cases j with
    | zero => cases e
    | succ j => exact r0.dat (j + 1) d e
  · cases j with
    | zero =>
      cases z
      exact ⟨xs, rfl, ha, o.cln a rfl, butH_eq, id, hi⟩
    | succ j => exact (no (j := j) z).elim
  · cases j with
    | zero =>
      cases l with
      | zero => exact n rfl
      | succ l => exact no (j := l) zb
    | succ j => exact no (j := j) za
end
end Ez
namespace Ez
open L2 PySem PyProof.Rows PySem.Spec
theorem od_pow {c : Cn} {P : D → Prop} {i j : Int} (h : decide (0 ≤ j ∧ j ≤ 1000000 ∧ i.natAbs < 2 ^ 64) = true) (k : P (.int (i ^ j.toNat))) : opD c (rI CPow fun i j => .int (i ^ j.toNat)) (.int i) (.int j) P :=
  od_ci (show 0 ≤ j ∧ j ≤ 1000000 ∧ i.natAbs < 2 ^ 64 from of_decide_eq_true h) k
end Ez
set_option Elab.async false
set_option linter.all false
set_option maxRecDepth 100000
namespace Ez
open L2 PySem PyProof.Rows PySem.Spec
/-- a body under the wishes of its clauses -/
def runTb (tb : WX → TS) (Wf : Ends → WX) : TS := fun D' s H => tb (Wf D') D' s H
theorem ps_tryR {X : Cx} {body : List Stmt} {h0 : ExceptHandler} {hds : List ExceptHandler} {l : List Clause} {pos : Pos} {tb : WX → TS} {Wout : WX} (hs : X.stack = X.env :: X.outer) (hf : X.env.frame = some X.env.locals) (hN : X.N.Nodup) (tk : L2N.Takes X Wout)
    (hb : ∀ (Wx : WX) (pn : List (Addr × Obj)) (xe : Value → Shared → Prop), L2N.Takes (X.tr pn xe) Wx → PassesOwn (model X.prog X.w) X.A X.env xe → PSs (X.tr pn xe) body (tb Wx))
    (hh : HdsN X (h0 :: hds) l) : PS X (.Try body (h0 :: hds) [] [] pos) (runTb tb fun D' => wTry X.K Wout D' l) := ps_tryN hs hf hN tk hb hh
theorem ws_tryR {c : Cn} {q : List Sl} {F : Fn} {l : List Clause} {tb : WX → TS} {Wout : WX} (h : ∀ (G1 : Hp) (Wx : WX), WA { c with G0 := G1 } Wx (hdD { c with G0 := G1 } F l) → (∀ E Z, XA c E Z → XA { c with G0 := G1 } E Z) → wpS { c with G0 := G1 } (tb Wx) q F) :
    wpS c (runTb tb fun D' => wTry c.K Wout D' l) q F := ws_try h
end Ez
namespace Ez
open L2 PySem PyProof.Rows PySem.Spec
theorem D.eqv_same {x : D} (h : D.cmp x = true) : D.eqv x x = true := PySem.SeqAt.eqv_refl _ (D.lay x (Bool.and_eq_true_iff.mp h).1)
section
variable {c : Cn} {P : D → Prop}
theorem od_ne_same {x : D} (h : D.cmp x = true) (k : P (.bl false)) : opD c (rNeD c.K) x x P := od_ne h h (by rw [D.eqv_same h]; exact k)
theorem od_eq_same {x : D} (h : D.cmp x = true) (k : P (.bl true)) : opD c (rEqD c.K) x x P := od_eq h h (by rw [D.eqv_same h]; exact k)
/-- two ints compared -/
theorem eqv_int (a b : Int) : D.eqv (.int a) (.int b) = decide (a = b) := rfl
theorem od_eqI {a b : Int} (k : P (.bl (decide (a = b)))) : opD c (rEqD c.K) (.int a) (.int b) P := od_eq rfl rfl k
theorem od_neI {a b : Int} (k : P (.bl (!decide (a = b)))) : opD c (rNeD c.K) (.int a) (.int b) P := od_ne rfl rfl k
end
theorem Bd.add2 {n m : Nat} {i j : Int} (h : Bd n i) (k : Bd m j) : Bd (n + m + 1) (i + j) := (h.mono (Nat.le_add_right n m)).add (k.mono (Nat.le_add_left m n))
theorem Bd.sub2 {n m : Nat} {i j : Int} (h : Bd n i) (k : Bd m j) : Bd (n + m + 1) (i - j) := (h.mono (Nat.le_add_right n m)).sub (k.mono (Nat.le_add_left m n))
theorem Bd.ediv {n : Nat} {i : Int} (h : Bd n i) (j : Int) : Bd n (i / j) := h.le (Int.natAbs_ediv_le_natAbs _ _)
theorem Bd.one : Bd 1 1 := by unfold Bd; decide
theorem br_nd {p : Prop} [Decidable p] {A B : Prop} (h1 : ¬ p → A) (h2 : p → B) : ((!decide p) = true → A) ∧ ((!decide p) = false → B) := ⟨fun e => h1 (by simpa using e), fun e => h2 (by simpa using e)⟩
theorem br_nd2 {p : Prop} [Decidable p] {A B : Prop} (h1 : ¬ p → A) (h2 : p → B) : ((!decide p) = false → B) ∧ ((!decide p) = true → A) := ⟨fun e => h2 (by simpa using e), fun e => h1 (by simpa using e)⟩
end Ez
set_option Elab.async false
set_option linter.all false
namespace Ez
open L2 PySem PyProof.Rows PySem.Spec
section
variable {c : Cn} {q : List Sl} {P : D → Prop} {ta te : TE} {F : Fn} {g : TG}
theorem rd_sq {K : KT} {G H : Hp} (e : Ex G H) {a : Addr} {xs : List V} (h : SqL K G a xs) : SqL K H a xs := h.imp (fun h => h.imp (e _ _) fun ⟨o, z⟩ => ⟨o, e _ _ z⟩) id
theorem cb_lenS {ds : List D} (k : P (.int ds.length)) : cbD c (fun zs H Q => ∃ p ys, zs = [.ref p] ∧ (SqL c.K H p ys ∨ SqT c.K H p ys) ∧ Q (.int ys.length) H) [.scr ds] P := fun G H vs o a Q hq => by
  obtain ⟨v, rfl, p, xs, rfl, h1, h2⟩ := IsL.one_of a
  refine ⟨p, xs, rfl, .inl (rd_sq o.sub h1), ?_⟩
  rw [IsL.len h2]; exact hq G H _ _ k (Stp.refl o) rfl
theorem ws_forS {tb : TS} (h : wpE c ta q fun d => ∃ ds, d = .scr ds ∧ ∃ I : Nat → List Sl → Prop, I 0 q ∧
      (∀ i x q', ds[i]? = some x → I i q' → wpG c g x q' fun q2 => wpS c tb q2 { F with nx := I (i + 1), ct := I (i + 1), bk := F.nx }) ∧ ∀ q', I ds.length q' → F.nx q') :
    wpS c (tFor (iList c.K ta) g tb) q F := fun D' s G H S R p =>
  h G H s S R _ fun G1 H1 v d h1 T1 i1 => by
    obtain ⟨ds, rfl, I, h0, hs, hd⟩ := h1
    obtain ⟨a, xs, rfl, l1, l2⟩ := i1
    have p1 := p.more T1.ex
    refine ⟨a, rfl, ⟨xs, rd_sq T1.ok.sub l1⟩, for_list (xs := xs) (fun i => LpAt c G1 (I i)) ⟨G1, q, h0, Ex.refl G1, S.trans T1, R.step T1⟩ (fun i s' H' _ z => ?_) (fun i x s' H' e z => ?_) fun s' H' z => ?_⟩
    · obtain ⟨G2, q2, _, e2, S2, _⟩ := z
      exact rd_sq S2.ok.sub (rd_sq e2 l1)
    · obtain ⟨G2, q2, w, e2, S2, R2⟩ := z
      obtain ⟨d, ed, id⟩ := IsL.back l2 e
      exact turn_at p1 e2 S2 R2 (Is.mono e2 d id) (hs i d q2 ed w)
    · obtain ⟨G2, q2, w, e2, S2, R2⟩ := z
      rw [IsL.len l2] at w
      exact p1.nx s' H' G2 q2 (hd q2 w) e2 S2 R2
/-- a new list is given back, nobody else holds it: slot i tells of it -/
theorem ws_retF {i : Nat} (hl : i < q.length) (h : wpF c te q fun ds => ∀ a, F.rt (q.set i (.own a ds)) (.adr a)) (hf : c.fr = false := by rfl) : wpS c (tRet te) q F := fun D' s G H S R p =>
  h G H s S R _ fun G1 H1 a xs ds h1 T1 hn hx => by
    have S1 := S.trans T1
    have hg := none_of_sub T1.ok.sub hn
    exact p.rt _ _ G1 _ _ _ (h1 a) T1.ex (S1.put (none_of_th S1.th hn) hg (T1.ok.notM hn)) (.of hf rfl) ((R.step T1).setO hn (none_of_th S1.th hn) hg (T1.ok.notM hn) hx hl)
end
section
variable {Pg : Program} {w : World} {K : KT} {mg : Str → Option Value} {base : Heap}
/-- the promise of the def that makes the hand -/
def spNew (K : KT) : Sp := fun vs H Q _ => ∃ G, ∃ ns : List Int, Ok W0 G H ∧ IsL K G [.scr (ns.map D.int)] vs ∧ ns.length ≤ 63 ∧
  ∀ G' H' p, Ok (HandW K p) G' H' → Stp W0 G H G' H' → Q (.ref p) H'
/-- .. and of the law: a script in, True out -/
def spLaw (K : KT) : Sp := fun vs H Q _ => ∃ G, ∃ ns : List Int, Ok W0 G H ∧ IsL K G [.scr (ns.map D.int)] vs ∧ ns.length ≤ 63 ∧ ∀ H', Q (.bl true) H'
def NewRt (k : Nat) (q : List Sl) (d : D) : Prop := ∃ (i : Nat) (p : Addr) (ds : List D), d = .adr p ∧ q[i]? = some (Sl.own p ds) ∧ HInv k ds
theorem fn_new {x qual : Str} {st : Stmt} {f : Addr} {fd : FuncData} {N ps : List Str} {k : Nat} (F : Fun K x qual st f fd) (S : FnScope N ps (defScope st)) (hl : ps.length = 1)
    (h : ∀ (cdv : Value) (A : Around) (outer : List Env) (s : Shared) (E : XK) (G H : Hp) (ns : List Int), Room k (A.deeper (envOfC qual (defScope st) s.heap.objs.size f cdv)) → ns.length ≤ 63 →
      ∃ tm, PSs (cxOf (L2N.CX Pg w) Pg w K mg base N qual (defScope st) f cdv A outer s H E) (defBody st) tm ∧
        wpS ⟨K, W0, G, H, false⟩ tm (slots [.scr (ns.map D.int)] N) ⟨fun _ => False, NewRt K.hk, fun _ => False, fun _ => False⟩) :
    FnOk Pg w K mg base (L2N.CX Pg w) (k + 1) f fd ps (spNew K) := by
  refine fun_okN F S (fun vs H Q E ⟨G, ns, _, i, _⟩ => by rw [IsL.len i, hl]; rfl) fun cdv A outer s H vs Q E hr h1 => ?_
  obtain ⟨G, ns, o, iv, hz, hq⟩ := h1
  obtain ⟨tm, d1, d2⟩ := h cdv A outer s E G H ns hr hz
  refine ⟨tm, d1, d2 _ _ G H (Stp.refl o) (rel_start N iv) ⟨fun _ _ _ _ z => z.elim, fun v H' G' d s' q' z e S' i' R' => ?_, fun _ _ _ _ z => z.elim, fun _ _ _ _ z => z.elim⟩⟩
  obtain ⟨i, p, ds, rfl, hi, ok⟩ := z
  cases (show v = V.ref p from i')
  obtain ⟨xs, q1, q2, q3, q4, q5, q6⟩ := R'.own i p _ hi
  exact hq G' H' p ⟨S'.ok.sub, fun a m => by cases (show a = p from m); exact q3, fun a m => by cases (show a = p from m); exact ⟨_, q2⟩, ⟨xs, ds, q2, q6, ok⟩⟩ S'
end
end Ez
namespace Ez
open L2 PySem PyProof.Rows PySem.Spec
def tAsgF (te : TE) (i : Nat) : TS := tAsg te (gName i)
theorem ps_own {X : Cx} {st : Stmt} {te : TE} {i : Nat} (h : PS X st (tAsg te (gName i))) : PS X st (tAsgF te i) := h
def tRetF (te : TE) : TS := tRet te
theorem ps_retF {X : Cx} {st : Stmt} {te : TE} (h : PS X st (tRet te)) : PS X st (tRetF te) := h
section
variable {c : Cn} {q : List Sl} {P : D → Prop} {ta te : TE} {F : Fn} {g : TG}
theorem ws_own {i : Nat} (hl : i < q.length) (h : wpF c te q fun ds => ∀ a, F.nx (q.set i (.own a ds))) : wpS c (tAsgF te i) q F := ws_asgF hl h
theorem ws_retO (i : Nat) (hl : i < q.length) (h : wpF c te q fun ds => ∀ a, F.rt (q.set i (.own a ds)) (.adr a)) (hf : c.fr = false := by rfl) : wpS c (tRetF te) q F := ws_retF hl h hf
end
end Ez
set_option Elab.async false
set_option linter.all false
namespace Ez
open L2 PySem PyProof.Rows PySem.Spec
section
variable {K : PySem.W.Frag} {h : Heap} {mg : Str → Option Value} {Goal : Prop}
theorem def_elim {x : Str} {st : Stmt} {f : Addr} {oc kV doc pm cdv ct : Value} {od an : Option Addr} {osl : Array (Option Value)} (X : K.In h) (G : h.Ns mainGlobals mg)
    (a : PySem.W.nsIn K mainGlobals x = some (some (.ref f)))
    (l : K.lookup f = some ⟨oc, od, .func (PySem.W.fnOf x x (defArgs st) (defBody st) (defScope st) .none kV doc pm an cdv ct), osl⟩)
    (c : PySem.W.codeIn K cdv x = true) (k : PySem.W.keepIn K (.ref f) = true)
    (go : ∀ f fd, mg x = some (.ref f) → PySem.W.keepIn K (.ref f) = true → Fun K x x st f fd → Goal) : Goal :=
  go _ _ (PySem.W.mg_of X G a) k (fun_mk l c k)
theorem defD_elim {x : Str} {st : Stmt} {f T : Addr} {oc ot kV doc pm cdv ct : Value} {od odt an : Option Addr} {osl slt : Array (Option Value)} {its : List Value} {n : Nat} {dvs : List V} (X : K.In h) (G : h.Ns mainGlobals mg)
    (a : PySem.W.nsIn K mainGlobals x = some (some (.ref f)))
    (l : K.lookup f = some ⟨oc, od, .func (PySem.W.fnOf x x (defArgs st) (defBody st) (defScope st) (.ref T) kV doc pm an cdv ct), osl⟩)
    (c : PySem.W.codeIn K cdv x = true) (k : PySem.W.keepIn K (.ref f) = true)
    (t : K.lookup T = some ⟨ot, odt, .seq its.toArray n, slt⟩) (v : Vals dvs its) (hd : dvs ≠ [])
    (go : ∀ f fd, mg x = some (.ref f) → PySem.W.keepIn K (.ref f) = true → FunD K x x (defArgs st) (defBody st) (defScope st) dvs [] f fd → Goal) : Goal :=
  go _ _ (PySem.W.mg_of X G a) k ⟨⟨oc, od, .ref T, kV, doc, pm, an, cdv, ct, osl, rfl, l, c, .inr ⟨hd, T, _, its, n, rfl, t, rfl, v⟩, .inl rfl⟩, k⟩
theorem exm_at {A B : Addr} {r : Bool} (b : PySem.W.subIn K (.ref B) (.type "BaseException") = some true) (i : PySem.W.isClsIn K B = true) (t : PySem.W.typeIn K (.ref B) = some (.type "type")) (s : PySem.W.subIn K (.ref A) (.ref B) = some r) :
    PySem.W.exmOne K (.ref A) (.ref B) = some r := by
  have e1 : (PySem.W.subIn K (.ref B) (.type "BaseException") == some true) = true := by rw [b] <;> rfl
  have e2 : ((PySem.W.clsIn K B).isSome && PySem.W.typeIn K (.ref B) == some (.type "type")) = true := by
    have i' : (PySem.W.clsIn K B).isSome = true := i
    rw [i', t] <;> rfl
  show (if (PySem.W.subIn K (.ref B) (.type "BaseException") == some true) = true then (if ((PySem.W.clsIn K B).isSome && PySem.W.typeIn K (.ref B) == some (.type "type")) = true then PySem.W.subIn K (.ref A) (.ref B) else none) else none) = some r
  rw [if_pos e1, if_pos e2]
  exact s
/-- a class of errors: what the top says of it -/
theorem oex_at {C : Addr} {nm q : Str} {N : Addr} {bs bm : List Value} {sn : List Str} {sub : List Value} {ab : Bool} {col : Option Bool} {dd : Option Addr} {m0 m1 m2 m3 m5 : Option Value}
    (x : K.lookup C = some (excClassObj nm q C N bs bm true sn sub ab col dd m0 m1 m2 m3 m5 "ValueError.__new__")) (b : PySem.HandSPX.refsVE bm = true)
    (sa : PySem.W.findIn K (.ref C) "__setattr__" = some (some (.builtin "object.__setattr__"))) (ex : PySem.W.subIn K (.ref C) (.type "BaseException") = some true)
    (t : PySem.W.typeIn K (.ref C) = some (.type "type")) (k : PySem.W.keepIn K (.ref C) = true) : OexC K C :=
  ⟨⟨nm, q, N, bs, bm, sn, sub, ab, col, dd, m0, m1, m2, m3, m5, x, b⟩, sa, ex, t, k⟩
theorem law_binds {x : Str} {st : Stmt} {f : Addr} {fd : FuncData} {p : Str} (F : Fun K x x st f fd)
    (h : ∀ (kV doc pm : Value) (an : Option Addr) (cdv ct u : Value), bindArgs (PySem.W.fnOf x x (defArgs st) (defBody st) (defScope st) .none kV doc pm an cdv ct) ⟨[u], []⟩ = pure [(p, u)]) (s : Shared) (u : Value) : BindsTo s fd ⟨[u], []⟩ [(p, u)] := by
  obtain ⟨_, _, kV, doc, pm, an, cdv, ct, _, rfl, _⟩ := F.ex
  exact .of_eq (h kV doc pm an cdv ct u)
end
theorem isInts {K : KT} {G : Hp} : ∀ ns : List Int, IsL K G (ns.map D.int) (ns.map V.int)
  | [] => rfl
  | n :: r => ⟨_, _, rfl, rfl, isInts r⟩
/-- the script, as the law's def gets it -/
theorem spLaw_of {K : KT} {H : Hp} {a : Addr} {ns : List Int} (hl : ns.length ≤ 63) (hS : SqL K H a (ns.map V.int)) {E : XK} : spLaw K [.ref a] H (fun v _ => v = .bl true) E :=
  ⟨H, ns, ⟨Ex.refl H, fun _ m => m.elim, fun _ m => m.elim, trivial⟩, ⟨_, [], rfl, ⟨a, ns.map V.int, rfl, hS, isInts ns⟩, rfl⟩, hl, fun _ => rfl⟩
end Ez
set_option Elab.async false
set_option linter.all false
namespace Ez
open L2 PySem PyProof.Rows PySem.Spec
theorem piled_cons (t : Str) (r : List Str) : piled (t :: r) = t.length + 2 + piled r := by simp [piled]
theorem textFrom_up : ∀ (ts : List Str) (k : Nat) (acc : Str), (textFrom k acc ts).length ≤ acc.length + piled ts
  | [], k, acc => by show acc.length ≤ _; omega
  | t :: r, k, acc => by
    have ih := textFrom_up r (k + 1) (acc ++ (if k > 0 then ", " else "" : String) ++ t)
    have e : (acc ++ (if k > 0 then ", " else "" : String) ++ t).length ≤ acc.length + 2 + t.length := by
      simp only [strLen_append]
      have : ((if k > 0 then ", " else "" : String) : Str).length ≤ 2 := by split <;> decide
      omega
    rw [piled_cons]
    show (textFrom (k + 1) _ r).length ≤ (_ : Nat)
    omega
theorem listText_up (ts : List Str) : (listText ts).length ≤ piled ts + 2 := by
  have h := textFrom_up ts 0 "["
  unfold listText
  rw [strLen_append]
  have e1 : (("[" : String) : Str).length = 1 := rfl
  have e2 : (("]" : String) : Str).length = 1 := rfl
  omega
theorem tupleText_up (ts : List Str) : (tupleText ts).length ≤ piled ts + 3 := by
  unfold tupleText
  simp only [strLen_append]
  have e1 : (("(" : String) : Str).length = 1 := rfl
  have e3 : ((if ts.length == 1 then ",)" else ")" : String) : Str).length ≤ 2 := by split <;> decide
  have e2 : (Str.join ", " ts).length ≤ piled ts := by
    by_cases h : ts = []
    · subst h; exact Nat.zero_le _
    · have := join_length_add ts h; omega
  have e1' : ("(" : Str).length = 1 := rfl
  omega
mutual
/-- so long a text at most -/
def D.shb : D → Nat
  | .bl _ => 5
  | .int _ => 1930
  | .str x => 10 * x.length + 2
  | .tup l => D.shbL l + 3
  | .lst l => D.shbL l + 3
  | _ => 4
def D.shbL : List D → Nat
  | [] => 0
  | d :: r => D.shb d + 2 + D.shbL r
end
mutual
def D.shw : D → Bool
  | .int i => decide (i.natAbs < 2 ^ 200)
  | .str x => PySem.PyData.strOk x
  | .tup l => D.shwL l
  | .lst l => D.shwL l
  | .non => true
  | .bl _ => true
  | _ => false
def D.shwL : List D → Bool
  | [] => true
  | d :: r => D.shw d && D.shwL r
end
theorem log_of {i : Int} (h : i.natAbs < 2 ^ 200) : i.natAbs.log2 < 1920 := Nat.lt_of_lt_of_le (PySem.Flt.log2_lt_of (by decide) h) (by decide)
mutual
theorem D.shown_of : ∀ d : D, D.shw d = true → d.py.showable = true ∧ d.pur = true ∧ d.py.shown.length ≤ d.shb
  | .non, _ => ⟨rfl, rfl, by show ("None" : Str).length ≤ 4; decide⟩
  | .bl b, _ => ⟨rfl, rfl, by cases b <;> (show ((_ : String) : Str).length ≤ 5) <;> decide⟩
  | .int i, h => by
    have h1 := log_of (of_decide_eq_true h)
    refine ⟨decide_eq_true h1, rfl, ?_⟩
    have := int_text_length_le (k := 1920) (by decide) h1
    show (Str.ofString (toString i)).length ≤ 1930
    rw [PySem.ofString_length]; omega
  | .str x, h => by
    refine ⟨rfl, h, ?_⟩
    refine StrLaws.reprText_len x fun c hc => ?_
    have hs : PySem.PyData.strOk x = true := h
    unfold PySem.PyData.strOk at hs
    have := (Array.all_eq_true_iff_forall_mem.mp hs) c (by simpa using hc)
    have := of_decide_eq_true this
    omega
  | .tup l, h => by
    obtain ⟨h1, h2, h3⟩ := D.shown_ofL l h
    refine ⟨h1, h2, ?_⟩
    have := tupleText_up (PyData.shownAll (D.pyL l))
    show (tupleText (PyData.shownAll (D.pyL l))).length ≤ D.shbL l + 3
    omega
  | .lst l, h => by
    obtain ⟨h1, h2, h3⟩ := D.shown_ofL l h
    refine ⟨h1, h2, ?_⟩
    have := listText_up (PyData.shownAll (D.pyL l))
    show (listText (PyData.shownAll (D.pyL l))).length ≤ D.shbL l + 3
    omega
theorem D.shown_ofL : ∀ l : List D, D.shwL l = true → PyData.showableAll (D.pyL l) = true ∧ D.purL l = true ∧ piled (PyData.shownAll (D.pyL l)) ≤ D.shbL l
  | [], _ => ⟨rfl, rfl, Nat.le_refl _⟩
  | d :: r, h => by
    obtain ⟨a, b⟩ := Bool.and_eq_true_iff.mp (show (D.shw d && D.shwL r) = true from h)
    obtain ⟨a1, a2, a3⟩ := D.shown_of d a
    obtain ⟨b1, b2, b3⟩ := D.shown_ofL r b
    refine ⟨?_, ?_, ?_⟩
    · show (d.py.showable && PyData.showableAll (D.pyL r)) = true
      rw [a1, b1]; rfl
    · show (D.pur d && D.purL r) = true
      rw [a2, b2]; rfl
    · show piled (d.py.shown :: PyData.shownAll (D.pyL r)) ≤ D.shb d + 2 + D.shbL r
      rw [piled_cons]; omega
end
def D.text (d : D) : Str := d.py.shown
section
variable {c : Cn} {q : List Sl} {P : D → Prop}
/-- texts alike -/
theorem od_eqS {x : Str} (k : P (.bl true)) : opD c rEq (.str x) (.str x) P := fun G H vx vy o a b Q hq => by
  cases (show vx = V.str x from a)
  cases (show vy = V.str x from b)
  refine ⟨rfl, ?_⟩
  rw [decide_eq_true rfl]
  exact hq _ _ _ _ k (Stp.refl o) rfl
theorem od_neS {x : Str} (k : P (.bl false)) : opD c rNe (.str x) (.str x) P := fun G H vx vy o a b Q hq => by
  cases (show vx = V.str x from a)
  cases (show vy = V.str x from b)
  refine ⟨rfl, ?_⟩
  rw [decide_eq_true rfl]
  exact hq _ _ _ _ k (Stp.refl o) rfl
end
end Ez
set_option Elab.async false
set_option linter.all false
namespace Ez
open L2 PySem PyProof.Rows PySem.Spec
structure FnG (P : Program) (w : World) (K : PySem.W.Frag) (mg : Str → Option Value) (base : Heap) (k : Nat) (f : Addr) (fd : FuncData) (ps : List Str) (sp : Sp) : Prop where
  size : ∀ vs H Q E, sp vs H Q E → vs.length = ps.length
  go : ∀ (A : Around) (outer : List Env) (s : Shared) (H : Hp) (args : Args) (us : List Value) (vs : List V) (Q : VK) (E : XK), Room k A → A.guards = some [] → Env0 P w K mg base A outer s H →
    BindsTo s fd args (ps.zip us) → Vals vs us → sp vs H Q E → codeAny (model P w) A (.call (.ref f) args) (CR (L2N.CX P w) outer P w H s Q E) s
section
variable {P : Program} {w : World} {K : PySem.W.Frag} {mg : Str → Option Value} {base : Heap} {sp : Sp} {ps : List Str} {k : Nat}
theorem fnG_of {x qual : Str} {st : Stmt} {f : Addr} {fd : FuncData} {N : List Str} (F : Fun K x qual st f fd) (S : FnScope N ps (defScope st)) (len : ∀ vs H Q E, sp vs H Q E → vs.length = ps.length)
    (body : ∀ (cdv : Value) (A : Around) (outer : List Env) (s : Shared) (H : Hp) (vs : List V) (Q : VK) (E : XK), A.guards = some [] → Room k (A.deeper (envOfC qual (defScope st) s.heap.objs.size f cdv)) → sp vs H Q E →
      ∃ t, PSs (cxOf (L2N.CX P w) P w K mg base N qual (defScope st) f cdv A outer s H E) (defBody st) t ∧ t ⟨fun _ h => Q .non h, Q, fun _ _ => False, fun _ _ => False⟩ (start N vs) H) : FnG P w K mg base (k + 1) f fd ps sp := by
  refine ⟨len, ?_⟩
  intro A outer s H args us vs Q E room gs env bound rel h
  obtain ⟨oc, od, kV, doc, pm, an, cdv, ct, sl, eq, look, code⟩ := F.ex
  subst eq
  have up : ∀ b o, base.get? b = some o → s.heap.get? b = some o := fun b o e => (env.bs b o e).1
  have kin := env.mod.kin.keeps up
  refine codeAny_call_function room.depth (kin _ _ look) rfl S.co S.gen rfl (PySem.W.codeRec_of kin code) (bound _ _ _ _ ?_)
  refine wpAny_newFunctionEnv_cells S.kind (fun y hy => ?_) ?_
  · rcases S.par y.1 (List.of_mem_zip (a := y.1) (b := y.2) hy).1 with z | z
    · exact Or.inl z
    · exact Or.inr ⟨z, PySem.W.cellsFrom_some _ _ _ (Or.inl z)⟩
  · intro env1 e1 s1 ic
    subst e1
    refine ⟨(env.mod.nolimit.keeps up).keeps ic.toInCall.keep, codeAny_func ?_⟩
    obtain ⟨t, d, p⟩ := body cdv A outer s H vs Q E gs (room.deeper _) h
    refine wpAny_mono (d.run [] s1 (start N vs) H _ (inv_start S room.hd env (len vs H Q E h) rel ic) p) ?_ fun _ _ z => z
    intro fl s2 z
    match fl, z with
    | .ret u, ⟨v, σ2, H2, J, rv, q⟩ => exact ⟨v, H2, J.os, J.bare, J.base, J.hok, rv, q⟩
    | .next, ⟨σ2, H2, J, q⟩ => exact ⟨V.non, H2, J.os, J.bare, J.base, J.hok, rfl, q⟩
    | .brk, ⟨_, _, _, q⟩ => exact q.elim
    | .cont, ⟨_, _, _, q⟩ => exact q.elim
end
section
variable {X : Cx} {k : Nat} {f : Addr} {fd : FuncData} {ps : List Str} {sp : Sp} {dvs : List V} {ds : List Value} {E : XK} {x : Str} {p pos : Pos} {e : Expr} {es : List Expr} {ta : TA}
theorem pe_callG (F : FnG X.prog X.w X.K X.mg X.base k f fd ps sp) (hr : Room k X.A) (gs : X.A.guards = some []) (hg : Gl X x) (hm : X.mg x = some (.ref f)) (hk : PySem.W.keepIn X.K (.ref f) = true) (hb : Binds X.K fd ps ds) (hd : Vals dvs ds) (hx : Passes (L2N.CX X.prog X.w) X E)
    (ha : PA X (e :: es) ta) (hdb : (x == ("__debug__" : Str)) = false := by decide) (he : starEach (e :: es) X.env = (false, eval e X.env) :: starEach es X.env := by rfl) (hpl : (backTo pos (starEach es X.env)).any (·.1) = false := by rfl) :
    PE X (.Call (.Name x p) (e :: es) [] pos) (tCall sp dvs E ta) := by
  constructor
  intro pins s σ H Q I h
  refine wpAny_Call_Name_kw (ld_glob I hg (pos := p) hm ?_ hdb)
  refine PySem.W.callWith_K (h₀ := X.base) I.ok.mod.kin hk (thn (ha.run pos pins s σ H _ I h) ?_) he hpl
  rintro us s1 ⟨vs, H1, J, r, q⟩
  refine ⟨J.kIn, wpAny_call (codeAny_mono (F.go X.A X.stack s1 H1 ⟨us, []⟩ (us ++ ds) (vs ++ dvs) Q E hr gs J.env0 (hb s1 us J.kIn ?_) (r.append hd) q) ?_)⟩
  · rw [← (r.append hd).length]; exact F.size _ _ _ _ q
  · intro res s2 z
    match res, z with
    | .error u, z => exact hx pins σ H1 s1 u s2 J z
    | .ok (.ret u), z => exact J.after z
    | .ok .next, z => exact z.elim
    | .ok .brk, z => exact z.elim
    | .ok .cont, z => exact z.elim
end
end Ez
set_option Elab.async false
set_option linter.all false
namespace Ez
open L2 PySem PyProof.Rows PySem.Spec
section
variable {P : Program} {w : World} {K : KT} {mg mb : Str → Option Value} {k : Nat} {fa a : Addr} {fd : FuncData} {x : Str} {s : Shared} {vs : List Value} {ns : List Int}
abbrev scrO (vs : List Value) : Obj := { cls := .type "list", data := .seq vs.toArray }
/-- the law's call, from a heap T in which the script alone may stand -/
theorem lawG_from {T : Hp} (kx : K.K.In s.heap) (mn : s.heap.Ns mainGlobals mg) (bn : s.heap.Ns builtinsNs mb) (bb : ∀ x : Str, x ≠ "__name__" → mb x = bootBuiltins x) (nl : s.heap.NoLimit) (ng : s.gens = #[])
    (ho : s.heap.get? a = some (scrO vs)) (hr : Room k callerA) (F : ∀ base : Heap, K.K.In base → base.Ns mainGlobals mg → FnG P w K mg base k fa fd [x] (spLaw K)) (bd : ∀ (s : Shared) (u : Value), BindsTo s fd ⟨[u], []⟩ [(x, u)])
    (hz : ns.length ≤ 63) (sq : SqL K T a (ns.map V.int)) (ok : HOk P w T s.heap) (only : ∀ b u, T b = some u → b = a ∧ ∃ o xs, u = HO.frz o (.lst xs)) (out : ∀ u, T a = some u → K.K.lookup a = none) :
    codeAny (model P w) callerA (.call (.ref fa) ⟨[.ref a], []⟩) (fun r s' => r = .ok (.ret (.bool true)) ∧ OldK s.heap s'.heap ∧ s'.os = s.os ∧ AllBare s'.gens) s := by
  have hide : ∀ {b : Addr} {m : Str → Option Value}, s.heap.Ns b m → (hidT s.heap T).Ns b m := by
    rintro b m ⟨o, es, ep, e, d, r⟩
    refine ⟨o, es, ep, hidT_get e ?_, d, r⟩
    match z : T b with
    | none => rfl
    | some u =>
      obtain ⟨z1, _⟩ := only b u z
      subst z1
      rw [ho] at e
      cases e
      cases (show Data.seq vs.toArray _ = Data.dict es ep from d)
  have kin : K.K.In (hidT s.heap T) := by
    intro b o e
    refine hidT_get (kx b o e) ?_
    match z : T b with
    | none => rfl
    | some u =>
      obtain ⟨z1, _⟩ := only b u z
      subst z1
      rw [out u z] at e
      cases e
  have lim : (hidT s.heap T).NoLimit := by
    obtain ⟨mc, l1, l2⟩ := nl
    exact ⟨mc, hide l1, l2⟩
  have env : Env0 P w K mg (hidT s.heap T) callerA [] s T :=
    ⟨rfl, ⟨kin, hide mn, ⟨mb, hide bn, bb⟩, lim⟩, fun b o e => of_hidT e, Nat.le_of_eq (hidT_size _ _), trivial, fun b m => by simp [frs] at m, ok, .of_eq ng⟩
  refine codeAny_mono ((F _ kin (hide mn)).go callerA [] s T ⟨[.ref a], []⟩ [.ref a] [.ref a] (fun v _ => v = .bl true) (fun _ _ _ => False) hr rfl env (bd s (.ref a)) (.cons rfl .nil) (spLaw_of hz sq)) ?_
  intro r s' h
  match r, h with
  | .error e, ⟨_, _, _, _, _, _, _, _, _, _, _, _, z⟩ => exact z.elim
  | .ok .next, h => exact h.elim
  | .ok .brk, h => exact h.elim
  | .ok .cont, h => exact h.elim
  | .ok (.ret u), ⟨v, H', os, bare, un, ok', rv, q⟩ =>
    have q2 : v = .bl true := q
    subst q2
    cases (show u = Value.bool true from rv)
    refine ⟨rfl, OldK.of_keep ?_, os, bare⟩
    intro b o e
    match z : T b with
    | none => exact un.keep b o e z (by simp [frs]) (by simp)
    | some t =>
      obtain ⟨_, ob, xs, zt⟩ := only b t z
      subst zt
      have z3 := (ok' b _ (un.frzs b ob _ z)).1
      have z4 := (ok b _ z).1
      rw [e] at z4
      cases z4
      exact z3
theorem lawG (kx : K.K.In s.heap) (mn : s.heap.Ns mainGlobals mg) (bn : s.heap.Ns builtinsNs mb) (bb : ∀ x : Str, x ≠ "__name__" → mb x = bootBuiltins x) (nl : s.heap.NoLimit) (ng : s.gens = #[])
    (ho : s.heap.get? a = some (scrO vs)) (hi : IntsAre vs ns) (hr : Room k callerA) (F : ∀ base : Heap, K.K.In base → base.Ns mainGlobals mg → FnG P w K mg base k fa fd [x] (spLaw K)) (bd : ∀ (s : Shared) (u : Value), BindsTo s fd ⟨[u], []⟩ [(x, u)])
    (hz : ns.length ≤ 63) :
    codeAny (model P w) callerA (.call (.ref fa) ⟨[.ref a], []⟩) (fun r s' => r = .ok (.ret (.bool true)) ∧ OldK s.heap s'.heap ∧ s'.os = s.os ∧ AllBare s'.gens) s := by
  have vi := vals_ints hi
  have big : ns.length ≤ sizeLine := Nat.le_trans hz (by decide)
  match z : K.K.lookup a with
  | some o =>
    have e := kx a o z
    rw [ho] at e
    cases e
    refine lawG_from (T := fun _ => none) kx mn bn bb nl ng ho hr F bd hz (Or.inr ⟨_, vs.toArray, _, z, rfl, rfl, rfl, ?_, ?_⟩) (fun b u e => nomatch e) (fun b u e => nomatch e) (fun u e => nomatch e)
    · rw [List.size_toArray, hi.length]; exact big
    · simpa using vi
  | none =>
    refine lawG_from (T := fun b => if b = a then some (.frz (scrO vs) (.lst (ns.map V.int))) else none) kx mn bn bb nl ng ho hr F bd hz (Or.inl (Or.inr ⟨scrO vs, if_pos rfl⟩)) (fun b u e => ?_) (fun b u e => ?_) (fun _ _ => z)
    · by_cases hb : b = a
      · subst hb
        cases (if_pos rfl).symm.trans e
        exact ⟨ho, by rw [List.length_map]; exact big, vs, _, vi, ho⟩
      · cases (if_neg hb).symm.trans e
    · by_cases hb : b = a
      · subst hb
        cases (if_pos rfl).symm.trans e
        exact ⟨rfl, _, _, rfl⟩
      · cases (if_neg hb).symm.trans e
end
/-- the end: a law that prints -/
theorem walkG {l : PySem.W.OpenLaw} {n k : Nat} {q : Program} {loose : List Str} {XP : (Str → Option Value) → Heap → Prop} {YP : World → Heap → Prop} {d : DefRec} {K : Params → KT} {x : Str}
    (hn : l.most = some n) (hn2 : n ≤ 63) (hdf : d.params.defaults = []) (hr : Room k callerA) (hY : ∀ (w : World) (h : Heap), YP w h → (K w.params).K.In h)
    (FG : ∀ (w : World) (mg : Str → Option Value) (fa : Addr) (h : Heap), (K w.params).K.In h → h.Ns mainGlobals mg → mg d.name = some (.ref fa) →
      ∃ fd : FuncData, (∀ (s : Shared) (u : Value), BindsTo s fd ⟨[u], []⟩ [(x, u)]) ∧ ∀ base : Heap, (K w.params).K.In base → base.Ns mainGlobals mg → FnG l.prog w (K w.params) mg base k fa fd [x] (spLaw (K w.params))) :
    PySem.W.WalkO q loose XP YP l.row.toRowW d [] (fun g xs => PySem.call g xs) := by
  refine Att.attach_call hn hdf ?_
  intro w s₀ s₁ mg mb fa o pm cd doc a vs ns G Y ho hd hcd hmg hobj hints hlen hg
  obtain ⟨fd, b1, b2⟩ := FG w mg fa _ (hY w _ Y) G.T.g hmg
  exact lawG (hY w _ Y) G.T.g G.T.b G.T.builtins G.T.nolimit hg hobj hints hr b2 b1 (Nat.le_trans hlen hn2)
end Ez
set_option Elab.async false
set_option linter.all false
set_option maxRecDepth 100000
namespace Ez
open L2 PySem PyProof.Rows PySem.Spec
inductive Tr (ε α : Type) : Type where
  | ret (a : α)
  | exn (e : ε)
  | bad
  | draw (m : Int) (k : Int → Tr ε α)
namespace Tr
variable {ε ε' α β γ : Type}
noncomputable def bind (t : Tr ε α) (f : α → Tr ε β) : Tr ε β := Tr.rec (motive := fun _ => Tr ε β) f exn bad (fun m _ r => draw m r) t
noncomputable def mapX (g : ε → ε') (t : Tr ε α) : Tr ε' α := Tr.rec (motive := fun _ => Tr ε' α) ret (fun e => exn (g e)) bad (fun m _ r => draw m r) t
/-- nothing may be let out -/
noncomputable def noX (t : Tr ε α) : Tr ε α := Tr.rec (motive := fun _ => Tr ε α) ret (fun _ => bad) bad (fun m _ r => draw m r) t
/-- what is let out is caught -/
noncomputable def catchX (t : Tr ε α) (f : ε → Tr ε' α) : Tr ε' α := Tr.rec (motive := fun _ => Tr ε' α) ret f bad (fun m _ r => draw m r) t
def All (hd : Prop) (P : α → Prop) (X : ε → Prop) : Tr ε α → Prop
  | ret a => P a
  | exn e => X e
  | bad => False
  | draw m k => hd ∧ 0 < m ∧ m.natAbs < 2 ^ 8000 ∧ ∀ v, 0 ≤ v → v < m → (k v).All hd P X
def Ret (b : α) : Tr ε α → Prop
  | ret a => a = b
  | exn _ => False
  | bad => False
  | draw m k => ∃ v, 0 ≤ v ∧ v < m ∧ (k v).Ret b
def Exn (x : ε) : Tr ε α → Prop
  | ret _ => False
  | exn e => e = x
  | bad => False
  | draw m k => ∃ v, 0 ≤ v ∧ v < m ∧ (k v).Exn x
variable {hd : Prop} {P P' : α → Prop} {X X' : ε → Prop}
theorem All.bind {Q : β → Prop} {f : α → Tr ε β} : ∀ {t : Tr ε α}, All hd Q X (t.bind f) → All hd (fun a => All hd Q X (f a)) X t
  | ret a, h => h
  | exn e, h => h
  | bad, h => h
  | draw m k, ⟨a, b, b', c⟩ => ⟨a, b, b', fun v v0 v1 => All.bind (t := k v) (c v v0 v1)⟩
theorem All.to_bind {Q : β → Prop} {f : α → Tr ε β} : ∀ {t : Tr ε α}, All hd (fun a => All hd Q X (f a)) X t → All hd Q X (t.bind f)
  | ret a, h => h
  | exn e, h => h
  | bad, h => h
  | draw m k, ⟨a, b, b', c⟩ => ⟨a, b, b', fun v v0 v1 => All.to_bind (t := k v) (c v v0 v1)⟩
theorem All.mono (hP : ∀ a, P a → P' a) (hX : ∀ e, X e → X' e) : ∀ {t : Tr ε α}, All hd P X t → All hd P' X' t
  | ret a, h => hP a h
  | exn e, h => hX e h
  | bad, h => h
  | draw m k, ⟨a, b, b', c⟩ => ⟨a, b, b', fun v v0 v1 => All.mono hP hX (t := k v) (c v v0 v1)⟩
theorem All.and : ∀ {t : Tr ε α}, All hd P X t → All hd P' X' t → All hd (fun a => P a ∧ P' a) (fun e => X e ∧ X' e) t
  | ret a, h, h' => ⟨h, h'⟩
  | exn e, h, h' => ⟨h, h'⟩
  | bad, h, _ => h
  | draw m k, ⟨a, b, b', c⟩, ⟨_, _, _, c'⟩ => ⟨a, b, b', fun v v0 v1 => All.and (t := k v) (c v v0 v1) (c' v v0 v1)⟩
theorem All.of_ret : ∀ {t : Tr ε α} {b : α}, All hd P X t → Ret b t → P b
  | ret a, b, h, e => e ▸ h
  | draw m k, b, ⟨_, _, _, c⟩, ⟨v, v0, v1, e⟩ => All.of_ret (t := k v) (c v v0 v1) e
theorem All.of_exn : ∀ {t : Tr ε α} {x : ε}, All hd P X t → Exn x t → X x
  | exn a, b, h, e => e ▸ h
  | draw m k, b, ⟨_, _, _, c⟩, ⟨v, v0, v1, e⟩ => All.of_exn (t := k v) (c v v0 v1) e
theorem All.self : ∀ {t : Tr ε α}, All hd P X t → All hd (fun b => Ret b t) (fun x => Exn x t) t
  | ret a, _ => rfl
  | exn e, _ => rfl
  | bad, h => h
  | draw m k, ⟨a, b, b', c⟩ => ⟨a, b, b', fun v v0 v1 => All.mono (fun _ z => ⟨v, v0, v1, z⟩) (fun _ z => ⟨v, v0, v1, z⟩) (All.self (c v v0 v1))⟩
theorem All.of_mapX {g : ε → ε'} {Y : ε' → Prop} : ∀ {t : Tr ε α}, All hd P Y (t.mapX g) → All hd P (fun e => Y (g e)) t
  | ret a, h => h
  | exn e, h => h
  | bad, h => h
  | draw m k, ⟨a, b, b', c⟩ => ⟨a, b, b', fun v v0 v1 => All.of_mapX (t := k v) (c v v0 v1)⟩
theorem All.to_mapX {g : ε → ε'} {Y : ε' → Prop} : ∀ {t : Tr ε α}, All hd P (fun e => Y (g e)) t → All hd P Y (t.mapX g)
  | ret a, h => h
  | exn e, h => h
  | bad, h => h
  | draw m k, ⟨a, b, b', c⟩ => ⟨a, b, b', fun v v0 v1 => All.to_mapX (t := k v) (c v v0 v1)⟩
theorem All.of_noX : ∀ {t : Tr ε α}, All hd P X t.noX → All hd P (fun _ => False) t
  | ret a, h => h
  | exn e, h => h
  | bad, h => h
  | draw m k, ⟨a, b, b', c⟩ => ⟨a, b, b', fun v v0 v1 => All.of_noX (t := k v) (c v v0 v1)⟩
theorem All.to_noX : ∀ {t : Tr ε α}, All hd P (fun _ => False) t → All hd P X t.noX
  | ret a, h => h
  | exn e, h => h
  | bad, h => h
  | draw m k, ⟨a, b, b', c⟩ => ⟨a, b, b', fun v v0 v1 => All.to_noX (t := k v) (c v v0 v1)⟩
theorem All.catch {f : ε → Tr ε' α} {Y : ε' → Prop} : ∀ {t : Tr ε α}, All hd P Y (t.catchX f) → All hd P (fun e => All hd P Y (f e)) t
  | ret a, h => h
  | exn e, h => h
  | bad, h => h
  | draw m k, ⟨a, b, b', c⟩ => ⟨a, b, b', fun v v0 v1 => All.catch (t := k v) (c v v0 v1)⟩
end Tr
/-- an error let out: its class, its fields -/
structure Xn where
  c : Nat
  ds : List D
abbrev R := Tr Xn D
/-- what a slot holds -/
inductive Sv where
  | unk
  | dat (d : D)
  | own (ds : List D)
  | exc (c : Nat) (ds : List D)
  | obj (c : Nat) (ds : List D)
abbrev Vars := List Sv
inductive Op2 | add | sub | mul | div | mod | pow | shl | shr | and | or | xor | lt | le | gt | ge | eq | ne | inn | nin | isB | isnB | ix
inductive Bi | len | abs | int | gcd2 | gcd3 | lcm2 | min2 | max2 | list | tuple | sorted | repr | sum | min1 | all1 | lzip | max1
inductive BT | int | bool | str | tuple | list
inductive ItK | seq | rng1 | rng2 | enum | zip
inductive Tg
  | name (i : Nat)
  | tup (t : Tg)
  | nil
  | cons (a b : Tg)
inductive EE
  | var (i : Nat)
  | lit (d : D)
  | con (k : Nat)
  | fnv (f : Nat)
  | clv (c : Nat)
  | op (o : Op2) (a b : EE)
  | neg (a : EE)
  | and (a b : EE)
  | or (a b : EE)
  | not (a : EE)
  | notT (a : EE)
  | isN (a : EE)
  | notN (a : EE)
  | tru (a : EE)
  | chain (o o' : Op2) (a b c : EE)
  | ifx (t a b : EE)
  | nil
  | cons (a b : EE)
  | star (a b : EE)
  | tup (a : EE)
  | lst (a : EE)
  | slc (a lo hi : EE)
  | bk0 (a : EE)
  | nop
  | part (a : EE)
  | call (f : Nat) (sk : Bool) (dvs : List V) (a : EE)
  | newO (c f : Nat) (sk : Bool) (a : EE)
  | callV (i : Nat) (sk : Bool) (a : EE)
  | take (a : EE)
  | bi (b : Bi) (a : EE)
  | isi (a : EE) (t : BT)
  | isi2 (a : EE) (t u : BT)
  | isC (a : EE) (c : Nat)
  | eqO (n : Bool) (c f : Nat) (a b : EE)
  | lc (k : ItK) (it : EE) (tg : Tg) (t e : EE) (vs : List Nat)
  | yes
  | eqR (n : Bool) (a b : EE)
  | xf (i : Nat) (c : Nat) (f : Str)
  | fld (a : EE) (f : Str)
  | lenO (i : Nat)
  | tupO (i : Nat)
  | ixO (i : Nat) (a : EE)
  | slcO (i : Nat) (lo hi : EE)
  | idx (a b : EE)
  | prp (k f : Nat) (a : EE)
  | cmpO (n : Bool) (i : Nat) (b : EE)
  | lend (i : Nat) (a : EE)
  | lstO (i : Nat)
  | lc2 (k : ItK) (it : EE) (tg : Tg) (t : EE) (k1 : ItK) (it1 : EE) (tg1 : Tg) (t1 e : EE) (vs vs1 : List Nat)
inductive SS
  | nop
  | seq (a b : SS)
  | asg (tg : Tg) (e : EE)
  | asgO (i : Nat) (e : EE)
  | par (i j : Nat) (a : EE)
  | par3 (i j l : Nat) (a : EE)
  | app (i : Nat) (e : EE)
  | setO (i : Nat) (ix e : EE)
  | ret (e : EE)
  | retN
  | ite (t : EE) (a b : SS)
  | for (k : ItK) (it : EE) (tg : Tg) (b : SS)
  | whl (t : EE) (b : SS)
  | rse (c : Nat) (a : EE)
  | try (b : SS) (h : SS)
  | hnil
  | hcons (c : Nat) (i : Option Nat) (b : SS) (r : SS)
  | drop (e : EE)
  | keep (i : Nat) (s : SS)
  | setF (f : Str) (e : EE)
  | brk
  | cnt
  | retO (i : Nat)
  | asgC (i f : Nat) (sk : Bool) (dvs : List V) (a : EE)
  | retX (t a b : EE)
/-- what a run leans on -/
structure Pgm where
  call : Nat → List D → R
  con : Nat → D
  fld : Nat → List Str
  xf : Nat → List Str
  sub : Nat → Nat → Option Bool
  /-- how often a while may turn -/
  most : Nat
  /-- defs that a name may hold -/
  ok : Nat → Bool
  /-- what isinstance says: a thing of that class (none: a value of a built-in class) -/
  isc : Option Nat → Nat → Option Bool
  /-- defs that give back a list of their own -/
  fr : Nat → Bool
open Tr
def o2_add : D → D → R
  | .int i, .int j => ret (.int (i + j))
  | .lst a, .lst b => if a.length + b.length ≤ 10000 then ret (.lst (a ++ b)) else bad
  | .tup a, .tup b => if a.length + b.length ≤ 10000 then ret (.tup (a ++ b)) else bad
  | _, _ => bad
def o2_sub : D → D → R
  | .int i, .int j => ret (.int (i - j))
  | _, _ => bad
def o2_mul : D → D → R
  | .int i, .int j => if i.natAbs.log2 + j.natAbs.log2 + 130 < 1000000 then ret (.int (i * j)) else bad
  | .lst a, .int k => if a.length * k.toNat ≤ 100000 ∧ k ≤ 10000 ∧ -10000 ≤ k then ret (.lst (List.replicate k.toNat a).flatten) else bad
  | .tup a, .int k => if 0 < a.length ∧ a.length ≤ 1000 ∧ 1 ≤ k ∧ k ≤ 1000 then ret (.tup (List.replicate k.toNat a).flatten) else bad
  | _, _ => bad
def o2_div : D → D → R
  | .int i, .int j => if j ≠ 0 ∧ j.natAbs.log2 < 9000 then ret (.int (i.fdiv j)) else bad
  | _, _ => bad
def o2_mod : D → D → R
  | .int i, .int j => if 0 < j then ret (.int (i % j)) else bad
  | _, _ => bad
def o2_pow : D → D → R
  | .int i, .int j => if 0 ≤ j ∧ j ≤ 1000000 ∧ i.natAbs < 2 ^ 64 then ret (.int (i ^ j.toNat)) else bad
  | _, _ => bad
def o2_shl : D → D → R
  | .int i, .int j => if 0 ≤ j ∧ j ≤ 1000000 ∧ i.natAbs < 2 ^ 64 then ret (.int (i * 2 ^ j.toNat)) else bad
  | _, _ => bad
def o2_shr : D → D → R
  | .int i, .int j => if 0 ≤ j then ret (.int (i / 2 ^ j.toNat)) else bad
  | _, _ => bad
def o2_and : D → D → R
  | .int i, .int j => ret (.int (Builtin.bitAnd i j))
  | _, _ => bad
def o2_or : D → D → R
  | .int i, .int j => ret (.int (Builtin.bitOr i j))
  | _, _ => bad
def o2_xor : D → D → R
  | .int i, .int j => ret (.int (Builtin.bitXor i j))
  | _, _ => bad
def o2_lt : D → D → R
  | .int i, .int j => ret (.bl (decide (i < j)))
  | _, _ => bad
def o2_le : D → D → R
  | .int i, .int j => ret (.bl (decide (i ≤ j)))
  | _, _ => bad
def o2_gt : D → D → R
  | .int i, .int j => ret (.bl (decide (i > j)))
  | _, _ => bad
def o2_ge : D → D → R
  | .int i, .int j => ret (.bl (decide (i ≥ j)))
  | _, _ => bad
def o2_eq : D → D → R
  | x, y => if (D.cmp x && D.cmp y) = true then ret (.bl (D.eqv x y)) else bad
def o2_ne : D → D → R
  | x, y => if (D.cmp x && D.cmp y) = true then ret (.bl (!D.eqv x y)) else bad
def o2_inn : D → D → R
  | x, .lst l => if (D.cmp x && D.cmp (.lst l)) = true then ret (.bl (l.any fun z => D.eqv z x)) else bad
  | x, .tup l => if (D.cmp x && D.cmp (.tup l)) = true then ret (.bl (l.any fun z => D.eqv z x)) else bad
  | _, _ => bad
def o2_nin : D → D → R
  | x, .lst l => if (D.cmp x && D.cmp (.lst l)) = true then ret (.bl (!l.any fun z => D.eqv z x)) else bad
  | x, .tup l => if (D.cmp x && D.cmp (.tup l)) = true then ret (.bl (!l.any fun z => D.eqv z x)) else bad
  | _, _ => bad
def o2_isB : D → D → R
  | .bl a, .bl b => ret (.bl (decide (a = b)))
  | _, _ => bad
def o2_isnB : D → D → R
  | .bl a, .bl b => ret (.bl (!decide (a = b)))
  | _, _ => bad
def o2_ix : D → D → R
  | .tup l, .int i => match atI l i with | some d => ret d | none => bad
  | .lst l, .int i => match atI l i with | some d => ret d | none => bad
  | _, _ => bad
def op2 (o : Op2) : D → D → R := match o with
  | .add => o2_add
  | .sub => o2_sub
  | .mul => o2_mul
  | .div => o2_div
  | .mod => o2_mod
  | .pow => o2_pow
  | .shl => o2_shl
  | .shr => o2_shr
  | .and => o2_and
  | .or => o2_or
  | .xor => o2_xor
  | .lt => o2_lt
  | .le => o2_le
  | .gt => o2_gt
  | .ge => o2_ge
  | .eq => o2_eq
  | .ne => o2_ne
  | .inn => o2_inn
  | .nin => o2_nin
  | .isB => o2_isB
  | .isnB => o2_isnB
  | .ix => o2_ix
def BT.name : BT → String
  | .int => "int" | .bool => "bool" | .str => "str" | .tuple => "tuple" | .list => "list"
def isiD : D → BT → Option Bool
  | .non, _ => some false
  | .bl _, .int => some true
  | .bl _, .bool => some true
  | .bl _, _ => some false
  | .int _, .int => some true
  | .int _, _ => some false
  | .str _, .str => some true
  | .str _, _ => some false
  | .tup _, .tuple => some true
  | .tup _, _ => some false
  | .lst _, .list => some true
  | .lst _, _ => some false
  | _, _ => none
def intsOf : List D → Option (List Int)
  | [] => some []
  | .int i :: r => (intsOf r).map (i :: ·)
  | _ => none
def insI (x : Int) : List Int → List Int
  | [] => [x]
  | y :: r => if x ≤ y then x :: y :: r else y :: insI x r
def lexI : List Int → List Int → Bool
  | [], [] => false
  | [], _ :: _ => true
  | _ :: _, [] => false
  | a :: l, b :: m => bif decide (a = b) then lexI l m else decide (a < b)
def insX (x : List Int) : List (List Int) → List (List Int)
  | [] => [x]
  | y :: r => bif lexI y x then y :: insX x r else x :: y :: r
def sortX : List (List Int) → List (List Int)
  | [] => []
  | x :: r => insX x (sortX r)
def tupI (n : List Int) : D := .tup (n.map D.int)
def tupsOf : List D → Option (List (List Int))
  | [] => some []
  | .tup l :: r => match intsOf l with
    | some n => (tupsOf r).map (n :: ·)
    | none => none
  | _ => none
def sameLen : List (List Int) → Bool
  | [] => true
  | x :: r => decide (1 ≤ x.length) && r.all fun y => decide (y.length = x.length)
mutual
/-- the numbers of nested rows, in their order -/
def D.flat : D → List Int
  | .int i => [i]
  | .tup l => D.flatL l
  | .lst l => D.flatL l
  | _ => []
def D.flatL : List D → List Int
  | [] => []
  | d :: r => D.flat d ++ D.flatL r
end
mutual
/-- nested rows of numbers, of one shape -/
def D.like : D → D → Bool
  | .int _, .int _ => true
  | .tup a, .tup b => D.likeL a b
  | .lst a, .lst b => D.likeL a b
  | _, _ => false
def D.likeL : List D → List D → Bool
  | [], [] => true
  | a :: r, b :: s => D.like a b && D.likeL r s
  | _, _ => false
end
/-- the first of the least -/
def minDD (x : D) (r : List D) : D := r.foldl (fun a y => bif lexI y.flat a.flat then y else a) x
def mayMin (x : D) (r : List D) : Bool := D.like x x && r.all (fun y => D.like x y) && decide (D.dep x ≤ 60)
def boolsOf : List D → Option (List Bool)
  | [] => some []
  | .bl b :: r => (boolsOf r).map (b :: ·)
  | _ => none
def sortI : List Int → List Int
  | [] => []
  | x :: r => insI x (sortI r)
mutual
/-- the very same datum -/
def D.same : D → D → Bool
  | .non, .non => true
  | .bl a, .bl b => a == b
  | .int a, .int b => decide (a = b)
  | .str a, .str b => decide (a = b)
  | .tup a, .tup b => D.sameL a b
  | .lst a, .lst b => D.sameL a b
  | _, _ => false
def D.sameL : List D → List D → Bool
  | [], [] => true
  | a :: r, b :: s => D.same a b && D.sameL r s
  | _, _ => false
end
def D.repOk (d : D) : Bool := D.shw d && decide (D.dep d ≤ 60) && decide (D.shb d ≤ 1000000)
def bi_lenD : List D → R
  | [.lst l] => ret (.int l.length)
  | [.tup l] => ret (.int l.length)
  | [.scr l] => ret (.int l.length)
  | _ => bad
def bi_absD : List D → R
  | [.int i] => ret (.int (if i < 0 then -i else i))
  | _ => bad
def bi_intD : List D → R
  | [.int i] => ret (.int i)
  | [.bl b] => ret (.int (if b then 1 else 0))
  | _ => bad
def bi_gcd2D : List D → R
  | [.int i, .int j] => ret (.int ((Nat.gcd i.natAbs j.natAbs : Nat) : Int))
  | _ => bad
def bi_gcd3D : List D → R
  | [.int i, .int j, .int k] => ret (.int ((Nat.gcd (Nat.gcd i.natAbs j.natAbs) k.natAbs : Nat) : Int))
  | _ => bad
def bi_lcm2D : List D → R
  | [.int i, .int j] => if i.natAbs.log2 < 4000 ∧ j.natAbs.log2 < 4000 then ret (.int ((Nat.lcm i.natAbs j.natAbs : Nat) : Int)) else bad
  | _ => bad
def seqL : D → Option (List D)
  | .tup l => some l
  | .lst l => some l
  | _ => none
def bi_min2D : List D → R
  | [.int i, .int j] => ret (.int (if j < i then j else i))
  | [x, y] => if mayMin x [y] = true then ret (minDD x [y]) else bad
  | _ => bad
def bi_min1D : List D → R
  | [.lst (x :: r)] => if mayMin x r = true then ret (minDD x r) else bad
  | [.tup (x :: r)] => if mayMin x r = true then ret (minDD x r) else bad
  | _ => bad
def zipL : List D → List D → List D
  | x :: xs, y :: ys => .tup [x, y] :: zipL xs ys
  | _, _ => []
/-- list(zip(a, b)) of two sequences of one length -/
def bi_lzipD : List D → R
  | [d, e] => match seqL d, seqL e with
    | some ds, some es => if ds.length = es.length ∧ ds.length ≤ 10000 then ret (.lst (zipL ds es)) else bad
    | _, _ => bad
  | _ => bad
def bi_max1D : List D → R
  | [.lst l] => match intsOf l with | some (i :: r) => ret (.int (r.foldl max i)) | _ => bad
  | _ => bad
/-- the first place of an item -/
def idxD (y : D) : List D → Nat → Option Nat
  | [], _ => none
  | x :: r, k => if D.eqv x y = true then some k else idxD y r (k + 1)
def o2_idx : D → D → R
  | .lst l, y => if (D.cmp (.lst l) && D.cmp y) = true then (match idxD y l 0 with | some j => ret (.int (j : Int)) | none => bad) else bad
  | _, _ => bad
def bi_all1D : List D → R
  | [.lst l] => match boolsOf l with | some bs => ret (.bl (bs.all id)) | none => bad
  | _ => bad
def bi_max2D : List D → R
  | [.int i, .int j] => ret (.int (if j > i then j else i))
  | _ => bad
def bi_listD : List D → R
  | [.tup l] => ret (.lst l)
  | [.lst l] => ret (.lst l)
  | _ => bad
def bi_tupleD : List D → R
  | [.tup l] => ret (.tup l)
  | [.lst l] => ret (.tup l)
  | _ => bad
def bi_sortedD : List D → R
  | [.lst l] => match intsOf l with
    | some ns => if ns.length < 64 then ret (.lst ((sortI ns).map D.int)) else bad
    | none => match tupsOf l with
      | some ts => if sameLen ts = true then ret (.lst ((sortX ts).map tupI)) else bad
      | none => bad
  | [.tup l] => match intsOf l with
    | some ns => if ns.length < 64 then ret (.lst ((sortI ns).map D.int)) else bad
    | none => bad
  | _ => bad
def bi_reprD : List D → R
  | [x] => if D.repOk x = true then ret (.str (D.text x)) else bad
  | _ => bad
def bi_sumD : List D → R
  | [.lst l] => match intsOf l with | some ns => ret (.int ns.sum) | none => bad
  | _ => bad
def biD (b : Bi) : List D → R := match b with
  | .len => bi_lenD
  | .abs => bi_absD
  | .int => bi_intD
  | .gcd2 => bi_gcd2D
  | .gcd3 => bi_gcd3D
  | .lcm2 => bi_lcm2D
  | .min2 => bi_min2D
  | .max2 => bi_max2D
  | .list => bi_listD
  | .tuple => bi_tupleD
  | .sorted => bi_sortedD
  | .repr => bi_reprD
  | .sum => bi_sumD
  | .min1 => bi_min1D
  | .all1 => bi_all1D
  | .lzip => bi_lzipD
  | .max1 => bi_max1D
/-- nothing is drawn -/
noncomputable def Tr.noD {ε α : Type} (t : Tr ε α) : Tr ε α := Tr.rec (motive := fun _ => Tr ε α) ret exn bad (fun _ _ _ => bad) t
theorem Tr.All.of_noD {ε α : Type} {hd hd' : Prop} {P : α → Prop} {X : ε → Prop} : ∀ {t : Tr ε α}, All hd P X t.noD → All hd' P X t
  | ret _, h => h
  | exn _, h => h
  | bad, h => h
  | draw _ _, h => h.elim
mutual
/-- data that no list is part of -/
def D.tame : D → Bool
  | .tup l => D.tameL l
  | .lst _ => false
  | .ins _ l => D.tameL l
  | .exc _ _ _ _ _ => false
  | .scr _ => false
  | _ => true
def D.tameL : List D → Bool
  | [] => true
  | d :: r => D.tame d && D.tameL r
end
def tameR (d : D) : R := if d.tame = true then ret d else bad
def getV (ρ : Vars) (i : Nat) : R := match ρ[i]? with
  | some (.dat d) => ret d
  | _ => bad
def getO (ρ : Vars) (i : Nat) : R := match ρ[i]? with
  | some (.dat d) => ret d
  | some (.own ds) => ret (.lst ds)
  | _ => bad
def Tg.len : Tg → Nat
  | .cons _ b => b.len + 1
  | _ => 0
/-- true: of the parts of a target -/
def evalG : Bool → Tg → D → Vars → Option Vars
  | false, .name i, d, ρ => if i < ρ.length then some (ρ.set i (.dat d)) else none
  | false, .tup t, .tup l, ρ => if l.length = t.len then evalG true t (.tup l) ρ else none
  | false, .tup t, .lst l, ρ => if l.length = t.len then evalG true t (.tup l) ρ else none
  | true, .nil, .tup [], ρ => some ρ
  | true, .cons a b, .tup (x :: xs), ρ => match evalG false a x ρ with | some ρ' => evalG true b (.tup xs) ρ' | none => none
  | _, _, _, _ => none
def Tg.inn : Tg → List Nat → Bool
  | .name i, vs => vs.contains i
  | .tup t, vs => t.inn vs
  | .nil, _ => true
  | .cons a b, vs => a.inn vs && b.inn vs
def wipeV (ρ : Vars) : List Nat → Vars
  | [] => ρ
  | v :: vs => (wipeV ρ vs).set v .unk
def enumL : Nat → List D → List D
  | _, [] => []
  | n, x :: r => .tup [.int n, x] :: enumL (n + 1) r
def rngL (lo : Int) : Nat → List D
  | 0 => []
  | n + 1 => .int lo :: rngL (lo + 1) n
/-- the things that are walked -/
def itemsOf : ItK → D → Option (List D)
  | .seq, .lst l => some l
  | .seq, .tup l => some l
  | .seq, .scr l => some l
  | .enum, .tup [.lst l] => some (enumL 0 l)
  | .enum, .tup [.tup l] => some (enumL 0 l)
  | .zip, .tup [a, b] => (match seqL a, seqL b with | some l, some m => some (zipL l m) | _, _ => none)
  | .rng1, .tup [.int n] => if -10000 ≤ n ∧ n ≤ 100000 then some (rngL 0 n.toNat) else none
  | .rng2, .tup [.int a, .int b] => if 0 ≤ a ∧ a ≤ 10000 ∧ -10000 ≤ b ∧ b ≤ 10000 then some (rngL a (b - a).toNat) else none
  | _, _ => none
noncomputable def lcGo (f : D → Tr Xn (Option D)) : List D → List D → R
  | [], acc => ret (.lst acc)
  | x :: xs, acc => (f x).bind fun
    | some y => lcGo f xs (acc ++ [y])
    | none => lcGo f xs acc
def truD : D → Option Bool
  | .lst l => some (!l.isEmpty)
  | .tup l => some (!l.isEmpty)
  | .non => some false
  | .bl b => some b
  | .int i => some (!(i == 0))
  | _ => none
def toB (d : D) : Tr Xn Bool := match d with
  | .bl b => ret b
  | _ => bad
def optI : D → Option (Option Int)
  | .int i => some (some i)
  | .non => some none
  | _ => none
def slcT : D → Option Int → Option Int → R
  | .lst ds, l, h => ret (.lst (cutD ds l h))
  | .tup ds, l, h => ret (.tup (cutD ds l h))
  | _, _, _ => bad
noncomputable def ev_var (Γ : Pgm) (i : Nat)  (ρ : Vars) : R := getV ρ i
noncomputable def ev_lit (Γ : Pgm) (d : D)  (_ : Vars) : R := match d with
    | .non => ret .non
    | .bl b => ret (.bl b)
    | .int i => ret (.int i)
    | .str x => ret (.str x)
    | _ => bad
noncomputable def ev_con (Γ : Pgm) (k : Nat)  (_ : Vars) : R := ret (Γ.con k)
noncomputable def ev_fnv (Γ : Pgm) (f : Nat)  (_ : Vars) : R := ret (.fn f)
noncomputable def ev_clv (Γ : Pgm) (c : Nat)  (_ : Vars) : R := ret (.cls c)
noncomputable def ev_op (Γ : Pgm) (o : Op2) (a : EE) (b : EE) (r_a : Vars → R) (r_b : Vars → R) (ρ : Vars) : R := (r_a ρ).bind fun x => (r_b ρ).bind fun y => op2 o x y
noncomputable def ev_neg (Γ : Pgm) (a : EE) (r_a : Vars → R) (ρ : Vars) : R := (r_a ρ).bind fun | .int i => ret (.int (-i)) | _ => bad
noncomputable def ev_and (Γ : Pgm) (a : EE) (b : EE) (r_a : Vars → R) (r_b : Vars → R) (ρ : Vars) : R := (r_a ρ).bind fun | .bl true => r_b ρ | .bl false => ret (.bl false) | _ => bad
noncomputable def ev_or (Γ : Pgm) (a : EE) (b : EE) (r_a : Vars → R) (r_b : Vars → R) (ρ : Vars) : R := (r_a ρ).bind fun | .bl false => r_b ρ | .bl true => ret (.bl true) | _ => bad
noncomputable def ev_not (Γ : Pgm) (a : EE) (r_a : Vars → R) (ρ : Vars) : R := (r_a ρ).bind fun | .bl b => ret (.bl (!b)) | _ => bad
noncomputable def ev_notT (Γ : Pgm) (a : EE) (r_a : Vars → R) (ρ : Vars) : R := (r_a ρ).bind fun x => match truD x with | some b => ret (.bl (!b)) | none => bad
noncomputable def ev_isN (Γ : Pgm) (a : EE) (r_a : Vars → R) (ρ : Vars) : R := (r_a ρ).bind fun x => ret (.bl x.isNon)
noncomputable def ev_notN (Γ : Pgm) (a : EE) (r_a : Vars → R) (ρ : Vars) : R := (r_a ρ).bind fun x => ret (.bl (!x.isNon))
noncomputable def ev_tru (Γ : Pgm) (a : EE) (r_a : Vars → R) (ρ : Vars) : R := (r_a ρ).bind fun x => match truD x with | some b => ret (.bl b) | none => bad
noncomputable def ev_chain (Γ : Pgm) (o : Op2) (o' : Op2) (a : EE) (b : EE) (c : EE) (r_a : Vars → R) (r_b : Vars → R) (r_c : Vars → R) (ρ : Vars) : R := (r_a ρ).bind fun x => (r_b ρ).bind fun y => (op2 o x y).bind fun
    | .bl true => (r_c ρ).bind fun z => op2 o' y z
    | .bl false => ret (.bl false)
    | _ => bad
noncomputable def ev_ifx (Γ : Pgm) (t : EE) (a : EE) (b : EE) (r_t : Vars → R) (r_a : Vars → R) (r_b : Vars → R) (ρ : Vars) : R := (r_t ρ).bind fun | .bl true => r_a ρ | .bl false => r_b ρ | _ => bad
noncomputable def ev_nil (Γ : Pgm)   (_ : Vars) : R := ret (.tup [])
noncomputable def ev_cons (Γ : Pgm) (a : EE) (b : EE) (r_a : Vars → R) (r_b : Vars → R) (ρ : Vars) : R := (r_a ρ).bind fun x => (r_b ρ).bind fun | .tup xs => (if xs.length < 10000 then ret (.tup (x :: xs)) else bad) | _ => bad
noncomputable def ev_star (Γ : Pgm) (a : EE) (b : EE) (r_a : Vars → R) (r_b : Vars → R) (ρ : Vars) : R := (r_a ρ).bind fun x => match seqL x with | some l => ((r_b ρ).bind fun | .tup xs => (if l.length + xs.length ≤ 10000 then ret (.tup (l ++ xs)) else bad) | _ => bad) | none => bad
noncomputable def ev_tup (Γ : Pgm) (a : EE) (r_a : Vars → R) (ρ : Vars) : R := (r_a ρ).bind fun | .tup xs => if xs.length ≤ 10000 then ret (.tup xs) else bad | _ => bad
noncomputable def ev_lst (Γ : Pgm) (a : EE) (r_a : Vars → R) (ρ : Vars) : R := (r_a ρ).bind fun | .tup xs => if xs.length ≤ 10000 then ret (.lst xs) else bad | _ => bad
noncomputable def ev_slc (Γ : Pgm) (a : EE) (lo : EE) (hi : EE) (r_a : Vars → R) (r_lo : Vars → R) (r_hi : Vars → R) (ρ : Vars) : R := (r_a ρ).bind fun x => (r_lo ρ).bind fun l => match optI l with
    | none => bad
    | some l => (r_hi ρ).bind fun h => match optI h with
      | none => bad
      | some h => slcT x l h
noncomputable def ev_bk0 (Γ : Pgm) (a : EE) (r_a : Vars → R) (ρ : Vars) : R := (r_a ρ).bind fun | .tup l => ret (.tup (l.drop 1).reverse) | _ => bad
noncomputable def ev_nop (Γ : Pgm)   (_ : Vars) : R := ret .non
noncomputable def ev_part (Γ : Pgm) (a : EE) (r_a : Vars → R) (ρ : Vars) : R := (r_a ρ).bind fun | .int i => ret (.int i) | _ => bad
noncomputable def ev_call (Γ : Pgm) (f : Nat) (sk : Bool) (dvs : List V) (a : EE) (r_a : Vars → R) (ρ : Vars) : R := (r_a ρ).bind fun | .tup xs => (if dvs.all scaV then (if sk then Γ.call f (xs ++ dvs.map dOf) else (Γ.call f (xs ++ dvs.map dOf)).noX) else bad) | _ => bad
noncomputable def ev_newO (Γ : Pgm) (c f : Nat) (sk : Bool) (a : EE) (r_a : Vars → R) (ρ : Vars) : R := (r_a ρ).bind fun | .tup xs => (if sk then Γ.call f xs else (Γ.call f xs).noX) | _ => bad
noncomputable def ev_callV (Γ : Pgm) (i : Nat) (sk : Bool) (a : EE) (r_a : Vars → R) (ρ : Vars) : R := (getV ρ i).bind fun | .fn f => if Γ.ok f = true then ((r_a ρ).bind fun | .tup xs => (if sk then Γ.call f xs else (Γ.call f xs).noX) | _ => bad) else bad | _ => bad
noncomputable def ev_take (Γ : Pgm) (a : EE) (r_a : Vars → R) (ρ : Vars) : R := (r_a ρ).bind fun | .tup [.hand, .int m] => draw m fun v => ret (.int v) | _ => bad
noncomputable def ev_bi (Γ : Pgm) (b : Bi) (a : EE) (r_a : Vars → R) (ρ : Vars) : R := (r_a ρ).bind fun | .tup xs => biD b xs | _ => bad
noncomputable def ev_isi (Γ : Pgm) (a : EE) (t : BT) (r_a : Vars → R) (ρ : Vars) : R := (r_a ρ).bind fun x => match isiD x t with | some b => ret (.bl b) | none => bad
noncomputable def ev_isi2 (Γ : Pgm) (a : EE) (t : BT) (u : BT) (r_a : Vars → R) (ρ : Vars) : R := (r_a ρ).bind fun x => match isiD x t, isiD x u with | some b, some c => ret (.bl (b || c)) | _, _ => bad
def isCD (Γ : Pgm) (c : Nat) : D → Option Bool
  | .ins k _ => Γ.isc (some k) c
  | d => match D.tyn d with | some _ => Γ.isc none c | none => none
noncomputable def ev_isC (Γ : Pgm) (a : EE) (c : Nat) (r_a : Vars → R) (ρ : Vars) : R := (r_a ρ).bind fun x => match isCD Γ c x with | some b => ret (.bl b) | none => bad
/-- what an own == gives, turned round for != -/
def eqBack (n : Bool) : D → R
  | .bl r => ret (.bl (n != r))
  | _ => bad
/-- == (or, where n says so, !=): of two things of the class c by its own def f, else as ever -/
noncomputable def eqOD (Γ : Pgm) (n : Bool) (c f : Nat) : D → D → R
  | .ins c1 d1, y => match y with
    | .ins c2 d2 => if c1 = c ∧ c2 = c then ((Γ.call f [.ins c1 d1, .ins c2 d2]).noX.bind (eqBack n)) else bad
    | _ => bad
  | x, y => op2 (cond n .ne .eq) x y
noncomputable def ev_eqO (Γ : Pgm) (n : Bool) (c f : Nat) (a b : EE) (r_a : Vars → R) (r_b : Vars → R) (ρ : Vars) : R := (r_a ρ).bind fun x => (r_b ρ).bind fun y => eqOD Γ n c f x y
noncomputable def ev_lc (Γ : Pgm) (k : ItK) (it : EE) (tg : Tg) (t : EE) (e : EE) (vs : List Nat) (r_it : Vars → R) (r_t : Vars → R) (r_e : Vars → R) (ρ : Vars) : R := (r_it ρ).bind fun d => match itemsOf k d with
    | some l => if l.length ≤ 10000 ∧ tg.inn vs = true then lcGo (fun x => match evalG false tg x (wipeV ρ vs) with
        | some ρ' => (r_t ρ').noX.bind fun | .bl true => (r_e ρ').noX.bind fun y => ret (some y) | .bl false => ret none | _ => bad
        | none => bad) l [] else bad
    | none => bad
noncomputable def ev_yes (Γ : Pgm)   (_ : Vars) : R := ret (.bl true)
noncomputable def ev_eqR (Γ : Pgm) (n : Bool) (a : EE) (b : EE) (r_a : Vars → R) (r_b : Vars → R) (ρ : Vars) : R := (r_a ρ).bind fun x => if D.repOk x = true then ((r_b ρ).bind fun y => if D.same x y = true then ret (.bl (!n)) else bad) else bad
noncomputable def ev_xf (Γ : Pgm) (i : Nat) (c : Nat) (f : Str)  (ρ : Vars) : R := match ρ[i]? with
    | some (.exc c' ds) => if c = c' then (match ((Γ.xf c).zip ds).lookup f with | some d => ret d | none => bad) else bad
    | _ => bad
noncomputable def ev_fld (Γ : Pgm) (a : EE) (f : Str) (r_a : Vars → R) (ρ : Vars) : R := (r_a ρ).bind fun
    | .ins c ds => (match ((Γ.fld c).zip ds).lookup f with | some d => ret d | none => bad)
    | _ => bad
noncomputable def ev_lenO (Γ : Pgm) (i : Nat)  (ρ : Vars) : R := (getO ρ i).bind fun x => biD .len [x]
noncomputable def ev_tupO (Γ : Pgm) (i : Nat)  (ρ : Vars) : R := (getO ρ i).bind fun x => biD .tuple [x]
noncomputable def ev_ixO (Γ : Pgm) (i : Nat) (a : EE) (r_a : Vars → R) (ρ : Vars) : R := (getO ρ i).bind fun x => (r_a ρ).bind fun y => op2 .ix x y
noncomputable def ev_slcO (Γ : Pgm) (i : Nat) (lo : EE) (hi : EE) (r_lo : Vars → R) (r_hi : Vars → R) (ρ : Vars) : R := (getO ρ i).bind fun x => (r_lo ρ).bind fun l => match optI l with
    | none => bad
    | some l => (r_hi ρ).bind fun h => match optI h with
      | none => bad
      | some h => slcT x l h
noncomputable def ev_idx (Γ : Pgm) (a b : EE) (r_a r_b : Vars → R) (ρ : Vars) : R := (r_a ρ).bind fun
    | .lst l => (r_b ρ).bind fun y => o2_idx (.lst l) y
    | _ => bad
noncomputable def ev_prp (Γ : Pgm) (k f : Nat) (a : EE) (r_a : Vars → R) (ρ : Vars) : R := (r_a ρ).bind fun
    | .ins c ds => if c = k then (Γ.call f [.ins c ds]).noX else bad
    | _ => bad
/-- an own list compared (the list goes nowhere) -/
noncomputable def ev_cmpO (Γ : Pgm) (n : Bool) (i : Nat) (b : EE) (r_b : Vars → R) (ρ : Vars) : R := (getO ρ i).bind fun x => (r_b ρ).bind fun y => op2 (cond n .ne .eq) x y
/-- an own list handed over, and had back: nothing is drawn, nothing keeps it -/
noncomputable def ev_lend (Γ : Pgm) (i : Nat) (a : EE) (r_a : Vars → R) (ρ : Vars) : R := match ρ[i]? with
  | some (.own ds) => (r_a (ρ.set i (.dat (.lst ds)))).noX.noD.bind tameR
  | some (.dat _) => r_a ρ
  | _ => bad
noncomputable def ev_lstO (Γ : Pgm) (i : Nat) (ρ : Vars) : R := (getO ρ i).bind fun x => biD .list [x]
noncomputable def lcGo2 (f : D → List D → R) : List D → List D → R
  | [], acc => ret (.lst acc)
  | x :: xs, acc => (f x acc).bind fun
    | .lst acc' => lcGo2 f xs acc'
    | _ => bad
def ItK.pl : ItK → Bool
  | .seq => true
  | .rng1 => true
  | .rng2 => true
  | _ => false
noncomputable abbrev lc2F (k1 : ItK) (tg tg1 : Tg) (vs vs1 : List Nat) (r_t r_it1 r_t1 r_e : Vars → R) (ρ : Vars) (x : D) (acc : List D) : R := match evalG false tg x (wipeV ρ vs) with
  | some ρ' => (r_t ρ').noX.bind fun
    | .bl true => (r_it1 ρ').noX.bind fun d1 => match itemsOf k1 d1 with
      | some l1 => if acc.length + l1.length ≤ 10000 then lcGo (fun x => match evalG false tg1 x (wipeV ρ' vs1) with
          | some ρ2 => (r_t1 ρ2).noX.bind fun | .bl true => (r_e ρ2).noX.bind fun y => ret (some y) | .bl false => ret none | _ => bad
          | none => bad) l1 acc else bad
      | none => bad
    | .bl false => ret (.lst acc)
    | _ => bad
  | none => bad
/-- two generators -/
noncomputable def ev_lc2 (Γ : Pgm) (k : ItK) (it : EE) (tg : Tg) (t : EE) (k1 : ItK) (it1 : EE) (tg1 : Tg) (t1 e : EE) (vs vs1 : List Nat) (r_it r_t r_it1 r_t1 r_e : Vars → R) (ρ : Vars) : R :=
  if k.pl = true ∧ k1.pl = true ∧ tg.inn vs = true ∧ tg1.inn vs1 = true then ((r_it ρ).bind fun d => match itemsOf k d with
    | some l => lcGo2 (lc2F k1 tg tg1 vs vs1 r_t r_it1 r_t1 r_e ρ) l []
    | none => bad) else bad
noncomputable def evalE (Γ : Pgm) (y : EE) : Vars → R :=
  EE.rec (motive := fun _ => Vars → R) (ev_var Γ) (ev_lit Γ) (ev_con Γ) (ev_fnv Γ) (ev_clv Γ) (ev_op Γ) (ev_neg Γ) (ev_and Γ) (ev_or Γ) (ev_not Γ) (ev_notT Γ) (ev_isN Γ) (ev_notN Γ) (ev_tru Γ) (ev_chain Γ) (ev_ifx Γ) (ev_nil Γ) (ev_cons Γ) (ev_star Γ) (ev_tup Γ) (ev_lst Γ) (ev_slc Γ) (ev_bk0 Γ) (ev_nop Γ) (ev_part Γ) (ev_call Γ) (ev_newO Γ) (ev_callV Γ) (ev_take Γ) (ev_bi Γ) (ev_isi Γ) (ev_isi2 Γ) (ev_isC Γ) (ev_eqO Γ) (ev_lc Γ) (ev_yes Γ) (ev_eqR Γ) (ev_xf Γ) (ev_fld Γ) (ev_lenO Γ) (ev_tupO Γ) (ev_ixO Γ) (ev_slcO Γ) (ev_idx Γ) (ev_prp Γ) (ev_cmpO Γ) (ev_lend Γ) (ev_lstO Γ) (ev_lc2 Γ) y
inductive Fl
  | nx (ρ : Vars)
  | rt (d : D) (ρ : Vars)
  | bk (ρ : Vars)
  | ct (ρ : Vars)
  /-- a list of one's own is given back -/
  | rf (d : D) (ρ : Vars)
abbrev RS := Tr (Xn × Vars) Fl
noncomputable def at_ {α : Type} (t : Tr Xn α) (ρ : Vars) : Tr (Xn × Vars) α := t.mapX fun x => (x, ρ)
noncomputable def forGo (f : D → Vars → RS) : List D → Vars → RS
  | [], ρ => ret (.nx ρ)
  | x :: xs, ρ => (f x ρ).bind fun
    | .nx ρ' => forGo f xs ρ'
    | .ct ρ' => forGo f xs ρ'
    | .bk ρ' => ret (.nx ρ')
    | .rt d ρ' => ret (.rt d ρ')
    | .rf d ρ' => ret (.rf d ρ')
noncomputable def whGo (t : Vars → Tr Xn D) (f : Vars → RS) : Nat → Vars → RS
  | 0, _ => bad
  | n + 1, ρ => (at_ (t ρ) ρ).bind fun
    | .bl true => (f ρ).bind fun
      | .nx ρ' => whGo t f n ρ'
      | .ct ρ' => whGo t f n ρ'
      | .bk ρ' => ret (.nx ρ')
      | .rt d ρ' => ret (.rt d ρ')
      | .rf d ρ' => ret (.rf d ρ')
    | .bl false => ret (.nx ρ)
    | _ => bad
def Sv.isExc : Sv → Bool
  | .exc _ _ => true
  | .obj _ _ => true
  | _ => false
def Sv.clr : Sv → Sv
  | .exc _ _ => .unk
  | .obj _ _ => .unk
  | v => v
def noExc (ρ : Vars) : Bool := ρ.all fun v => !v.isExc
def Fl.clr : Fl → Fl
  | .nx ρ => .nx (ρ.map Sv.clr)
  | .rt d ρ => .rt d (ρ.map Sv.clr)
  | .rf d ρ => .rf d (ρ.map Sv.clr)
  | .bk ρ => .bk (ρ.map Sv.clr)
  | .ct ρ => .ct (ρ.map Sv.clr)
def Fl.off (i : Nat) : Fl → Fl
  | .nx ρ => .nx (ρ.set i .unk)
  | .rt d ρ => .rt d ρ
  | .rf d ρ => .rf d ρ
  | .bk ρ => .bk (ρ.set i .unk)
  | .ct ρ => .ct (ρ.set i .unk)
/-- forms that make a new list -/
def EE.fresh : EE → Bool
  | .lst _ => true
  | .bi .list _ => true
  | .lstO _ => true
  | .lc _ _ _ _ _ _ => true
  | .op .mul (.lst _) _ => true
  | _ => false
noncomputable def es_nop (Γ : Pgm)   (x : Option Xn) (ρ : Vars) : RS := match x with
      | some _ => bad
      | none => ret (.nx ρ)
noncomputable def es_seq (Γ : Pgm) (a : SS) (b : SS) (r_a : Option Xn → Vars → RS) (r_b : Option Xn → Vars → RS) (x : Option Xn) (ρ : Vars) : RS := match x with
      | some _ => bad
      | none => (r_a none ρ).bind fun
    | .nx ρ' => r_b none ρ'
    | f => ret f
noncomputable def es_asg (Γ : Pgm) (tg : Tg) (e : EE)  (x : Option Xn) (ρ : Vars) : RS := match x with
      | some _ => bad
      | none => (at_ (evalE Γ e ρ) ρ).bind fun d => match evalG false tg d ρ with | some ρ' => ret (.nx ρ') | none => bad
noncomputable def es_asgO (Γ : Pgm) (i : Nat) (e : EE)  (x : Option Xn) (ρ : Vars) : RS := match x with
      | some _ => bad
      | none => if e.fresh = true ∧ i < ρ.length then (at_ (evalE Γ e ρ) ρ).bind fun | .lst ds => ret (.nx (ρ.set i (.own ds))) | _ => bad else bad
noncomputable def es_par (Γ : Pgm) (i : Nat) (j : Nat) (a : EE)  (x : Option Xn) (ρ : Vars) : RS := match x with
      | some _ => bad
      | none => (at_ (evalE Γ a ρ) ρ).bind fun | .tup [x, y] => (if i < ρ.length ∧ j < ρ.length then ret (.nx ((ρ.set i (.dat x)).set j (.dat y))) else bad) | _ => bad
noncomputable def es_par3 (Γ : Pgm) (i : Nat) (j : Nat) (l : Nat) (a : EE)  (x : Option Xn) (ρ : Vars) : RS := match x with
      | some _ => bad
      | none => (at_ (evalE Γ a ρ) ρ).bind fun | .tup [x, y, z] => (if i < ρ.length ∧ j < ρ.length ∧ l < ρ.length then ret (.nx (((ρ.set i (.dat x)).set j (.dat y)).set l (.dat z))) else bad) | _ => bad
noncomputable def es_app (Γ : Pgm) (i : Nat) (e : EE)  (x : Option Xn) (ρ : Vars) : RS := match x with
      | some _ => bad
      | none => match ρ[i]? with
    | some (.own ds) => (at_ (evalE Γ e ρ) ρ).bind fun d => if ds.length ≤ 10000 then ret (.nx (ρ.set i (.own (ds ++ [d])))) else bad
    | _ => bad
noncomputable def es_setO (Γ : Pgm) (i : Nat) (ix : EE) (e : EE)  (x : Option Xn) (ρ : Vars) : RS := match x with
      | some _ => bad
      | none => match ρ[i]? with
    | some (.own ds) => (at_ (evalE Γ e ρ) ρ).bind fun d => (at_ (evalE Γ ix ρ) ρ).bind fun
      | .int k => (match ixN ds.length k with | some j => ret (.nx (ρ.set i (.own (ds.set j d)))) | none => bad)
      | _ => bad
    | _ => bad
noncomputable def es_ret (Γ : Pgm) (e : EE)  (x : Option Xn) (ρ : Vars) : RS := match x with
      | some _ => bad
      | none => (at_ (evalE Γ e ρ) ρ).bind fun d => ret (.rt d ρ)
noncomputable def es_retN (Γ : Pgm)   (x : Option Xn) (ρ : Vars) : RS := match x with
      | some _ => bad
      | none => ret (.rt .non ρ)
noncomputable def es_ite (Γ : Pgm) (t : EE) (a : SS) (b : SS) (r_a : Option Xn → Vars → RS) (r_b : Option Xn → Vars → RS) (x : Option Xn) (ρ : Vars) : RS := match x with
      | some _ => bad
      | none => (at_ (evalE Γ t ρ) ρ).bind fun | .bl true => r_a none ρ | .bl false => r_b none ρ | _ => bad
noncomputable def es_for (Γ : Pgm) (k : ItK) (it : EE) (tg : Tg) (b : SS) (r_b : Option Xn → Vars → RS) (x : Option Xn) (ρ : Vars) : RS := match x with
      | some _ => bad
      | none => (at_ (evalE Γ it ρ) ρ).bind fun d => match itemsOf k d with
    | some l => forGo (fun x ρ => match evalG false tg x ρ with | some ρ' => r_b none ρ' | none => bad) l ρ
    | none => bad
noncomputable def es_whl (Γ : Pgm) (t : EE) (b : SS) (r_b : Option Xn → Vars → RS) (x : Option Xn) (ρ : Vars) : RS := match x with
      | some _ => bad
      | none => whGo (fun ρ => evalE Γ t ρ) (fun ρ => r_b none ρ) Γ.most ρ
noncomputable def es_rse (Γ : Pgm) (c : Nat) (a : EE)  (x : Option Xn) (ρ : Vars) : RS := match x with
      | some _ => bad
      | none => (at_ (evalE Γ a ρ) ρ).bind fun | .tup ds => (if ds.length = (Γ.xf c).length ∧ ds.length ≤ 100 then exn (⟨c, ds.reverse⟩, ρ) else bad) | _ => bad
noncomputable def es_try (Γ : Pgm) (b : SS) (h : SS) (r_b : Option Xn → Vars → RS) (r_h : Option Xn → Vars → RS) (x : Option Xn) (ρ : Vars) : RS := match x with
      | some _ => bad
      | none => (r_b none ρ).catchX fun (x, ρ') => r_h (some x) ρ'
def es_hnil (_ : Pgm) (_ : Option Xn) (_ : Vars) : RS := bad
noncomputable def es_hcons (Γ : Pgm) (c : Nat) (i : Option Nat) (b r : SS) (r_b r_r : Option Xn → Vars → RS) (x : Option Xn) (ρ : Vars) : RS := match x with
      | none => bad
      | some x => match i with
      | none => ( match Γ.sub x.c c with
    | some true => if noExc ρ = true then ((r_b none ρ).noX.bind fun fl => ret fl.clr) else bad
    | some false => r_r (some x) ρ
    | none => bad)
      | some i => ( match Γ.sub x.c c with
    | some true => if noExc ρ = true ∧ i < ρ.length then (r_b none (ρ.set i (.exc x.c x.ds))).noX.bind fun fl => ret ((fl.clr).off i) else bad
    | some false => r_r (some x) ρ
    | none => bad)
noncomputable def es_drop (Γ : Pgm) (e : EE)  (x : Option Xn) (ρ : Vars) : RS := match x with
      | some _ => bad
      | none => (at_ (evalE Γ e ρ) ρ).bind fun _ => ret (.nx ρ)
noncomputable def es_keep (Γ : Pgm) (i : Nat) (s : SS) (r_s : Option Xn → Vars → RS) (x : Option Xn) (ρ : Vars) : RS := match x with
      | some _ => bad
      | none => match ρ[i]? with
    | some (.own ds) => r_s none (ρ.set i (.dat (.lst ds)))
    | _ => r_s none ρ
noncomputable def es_setF (Γ : Pgm) (f : Str) (e : EE)  (x : Option Xn) (ρ : Vars) : RS := match x with
      | some _ => bad
      | none => match ρ[0]? with
    | some (Sv.obj c ds) => (at_ (evalE Γ e ρ) ρ).bind fun d => if (Γ.fld c)[ds.length]? = some f then ret (.nx (ρ.set 0 (.obj c (ds ++ [d])))) else bad
    | _ => bad
noncomputable def es_brk (Γ : Pgm)   (x : Option Xn) (ρ : Vars) : RS := match x with
      | some _ => bad
      | none => ret (.bk ρ)
noncomputable def es_cnt (Γ : Pgm)   (x : Option Xn) (ρ : Vars) : RS := match x with
      | some _ => bad
      | none => ret (.ct ρ)
noncomputable def es_retO (Γ : Pgm) (i : Nat) (x : Option Xn) (ρ : Vars) : RS := match x with
      | some _ => bad
      | none => match ρ[i]? with
    | some (.own ds) => ret (.rf (.lst ds) ρ)
    | _ => bad
noncomputable def es_asgC (Γ : Pgm) (i f : Nat) (sk : Bool) (dvs : List V) (a : EE) (x : Option Xn) (ρ : Vars) : RS := match x with
      | some _ => bad
      | none => if Γ.fr f = true ∧ i < ρ.length then (at_ (evalE Γ (.call f sk dvs a) ρ) ρ).bind fun | .lst ds => ret (.nx (ρ.set i (.own ds))) | .tup l => ret (.nx (ρ.set i (.dat (.tup l)))) | _ => bad else bad
/-- return a if t else b: a new list, or a tuple -/
noncomputable def es_retX (Γ : Pgm) (t a b : EE) (x : Option Xn) (ρ : Vars) : RS := match x with
      | some _ => bad
      | none => (at_ (evalE Γ t ρ) ρ).bind fun
        | .bl true => if a.fresh = true then (at_ (evalE Γ a ρ) ρ).bind fun | .lst ds => ret (.rf (.lst ds) ρ) | _ => bad else bad
        | .bl false => (at_ (evalE Γ b ρ) ρ).bind fun | .tup l => ret (.rt (.tup l) ρ) | _ => bad
        | _ => bad
noncomputable def evalS (Γ : Pgm) (y : SS) : Option Xn → Vars → RS :=
  SS.rec (motive := fun _ => Option Xn → Vars → RS) (es_nop Γ) (es_seq Γ) (es_asg Γ) (es_asgO Γ) (es_par Γ) (es_par3 Γ) (es_app Γ) (es_setO Γ) (es_ret Γ) (es_retN Γ) (es_ite Γ) (es_for Γ) (es_whl Γ) (es_rse Γ) (es_try Γ) (es_hnil Γ) (es_hcons Γ) (es_drop Γ) (es_keep Γ) (es_setF Γ) (es_brk Γ) (es_cnt Γ) (es_retO Γ) (es_asgC Γ) (es_retX Γ) y
/-- a def -/
structure Df where
  ps : Nat
  vars : Nat
  body : SS
def startD (d : Df) (ds : List D) : Vars := ds.map Sv.dat ++ List.replicate (d.vars - ds.length) Sv.unk
def Fl.res : Fl → Tr (Xn × Vars) D
  | .nx _ => ret .non
  | .rt d _ => ret d
  | _ => bad
noncomputable def runD (Γ : Pgm) (d : Df) (ds : List D) : R := if ds.length = d.ps then ((evalS Γ d.body none (startD d ds)).bind Fl.res).mapX (·.1) else bad
/-- .. of a def that gives back a list of its own -/
def Fl.resF : Fl → Tr (Xn × Vars) D
  | .rf d _ => ret d
  | .rt (.tup l) _ => ret (.tup l)
  | _ => bad
noncomputable def runF (Γ : Pgm) (d : Df) (ds : List D) : R := if ds.length = d.ps then ((evalS Γ d.body none (startD d ds)).bind Fl.resF).mapX (·.1) else bad
/-- what makes a thing: its first slot is the thing -/
def Fl.made (fld : Nat → List Str) : Fl → Tr (Xn × Vars) D
  | .nx ρ => match ρ[0]? with
    | some (Sv.obj c ds) => if ds.length = (fld c).length then ret (.ins c ds) else bad
    | _ => bad
  | _ => bad
def startI (c : Nat) (d : Df) (ds : List D) : Vars := .obj c [] :: (ds.map Sv.dat ++ List.replicate (d.vars - (ds.length + 1)) Sv.unk)
noncomputable def runI (Γ : Pgm) (c : Nat) (d : Df) (ds : List D) : R := if ds.length + 1 = d.ps then ((evalS Γ d.body none (startI c d ds)).bind (Fl.made Γ.fld)).mapX (·.1) else bad
/-- a program: its defs by number -/
structure Text where
  df : Nat → Option Df
  con : Nat → D
  fld : Nat → List Str
  xf : Nat → List Str
  sub : Nat → Nat → Option Bool
  most : Nat
  ok : Nat → Bool
  /-- which class a def makes things of -/
  ini : Nat → Option Nat := fun _ => none
  isc : Option Nat → Nat → Option Bool := fun _ _ => none
  fr : Nat → Bool := fun _ => false
noncomputable def Text.run (T : Text) : Nat → Nat → List D → R
  | 0, _, _ => bad
  | n + 1, f, ds => match T.df f with
    | some d => (match T.ini f with
      | none => (match T.fr f with
        | false => runD ⟨T.run n, T.con, T.fld, T.xf, T.sub, T.most, T.ok, T.isc, T.fr⟩ d ds
        | true => runF ⟨T.run n, T.con, T.fld, T.xf, T.sub, T.most, T.ok, T.isc, T.fr⟩ d ds)
      | some c => runI ⟨T.run n, T.con, T.fld, T.xf, T.sub, T.most, T.ok, T.isc, T.fr⟩ c d ds)
    | none => bad
noncomputable def Text.pgm (T : Text) (n : Nat) : Pgm := ⟨T.run n, T.con, T.fld, T.xf, T.sub, T.most, T.ok, T.isc, T.fr⟩
end Ez
set_option Elab.async false
set_option linter.all false
set_option maxRecDepth 100000
set_option maxHeartbeats 3999999
namespace K02
open PySem Ez
def b_is_whole : SS := (.seq (.ite (.or (.isi (.var 0) .bool) (.not (.isi (.var 0) .int))) (.ret (.lit (.bl false))) .nop)
  (.seq (.ite (.and (.notN (.var 1)) (.op .lt (.var 0) (.var 1))) (.ret (.lit (.bl false))) .nop)
  (.ret (.or (.isN (.var 2)) (.op .le (.var 0) (.var 2))))))
def d_is_whole : Df := ⟨3, 3, b_is_whole⟩
def b_is_sequence : SS := (.ret (.and (.isi2 (.var 0) .list .tuple) (.chain .le .le (.var 1) (.bi .len (.cons (.var 0) .nil)) (.var 2))))
def d_is_sequence : Df := ⟨3, 3, b_is_sequence⟩
def b_check_face : SS := (.seq (.ite (.not (.call 0 true [] (.cons (.var 0) (.cons (.lit (.int 0)) (.cons (.lit (.int 5)) .nil))))) (.rse 3 (.cons (.var 0) .nil)) .nop)
  (.ret (.var 0)))
def d_check_face : Df := ⟨1, 1, b_check_face⟩
def b_check_corner : SS := (.seq (.ite (.not (.call 0 true [] (.cons (.var 0) (.cons (.lit (.int 0)) (.cons (.lit (.int 7)) .nil))))) (.rse 2 (.cons (.var 0) .nil)) .nop)
  (.ret (.var 0)))
def d_check_corner : Df := ⟨1, 1, b_check_corner⟩
def b_corner_bit : SS := (.ret (.op .and (.op .shr (.var 0) (.op .sub (.lit (.int 2)) (.var 1))) (.lit (.int 1))))
def d_corner_bit : Df := ⟨2, 2, b_corner_bit⟩
def b_corner_numbers : SS := (.ret (.bi .tuple (.cons (.lc .enum (.cons (.fld (.var 0) (Str.ofString "sides")) .nil) (.tup (.cons (.name 2) (.cons (.name 3) .nil))) .yes (.op .mul (.var 3) (.call 4 false [] (.cons (.var 1) (.cons (.var 2) .nil)))) [2, 3]) .nil)))
def d_corner_numbers : Df := ⟨2, 4, b_corner_numbers⟩
def b_face_axes : SS := (.ret (.op .ix (.con 0) (.call 2 true [] (.cons (.var 0) .nil))))
def d_face_axes : Df := ⟨1, 1, b_face_axes⟩
def b_are_beside : SS := (.ret (.op .ne (.op .div (.call 2 true [] (.cons (.var 0) .nil)) (.lit (.int 2))) (.op .div (.call 2 true [] (.cons (.var 1) .nil)) (.lit (.int 2)))))
def d_are_beside : Df := ⟨2, 2, b_are_beside⟩
def b_faces_beside : SS := (.seq (.drop (.call 2 true [] (.cons (.var 0) .nil)))
  (.ret (.bi .tuple (.cons (.lc .rng1 (.cons (.lit (.int 6)) .nil) (.name 1) (.op .ne (.op .div (.var 1) (.lit (.int 2))) (.op .div (.var 0) (.lit (.int 2)))) (.var 1) [1]) .nil))))
def d_faces_beside : Df := ⟨1, 2, b_faces_beside⟩
def b_faces_of_corner : SS := (.seq (.drop (.call 3 true [] (.cons (.var 0) .nil)))
  (.ret (.bi .tuple (.cons (.lc .rng1 (.cons (.lit (.int 3)) .nil) (.name 1) .yes (.op .add (.op .mul (.lit (.int 2)) (.var 1)) (.call 4 false [] (.cons (.var 0) (.cons (.var 1) .nil)))) [1]) .nil))))
def d_faces_of_corner : Df := ⟨1, 2, b_faces_of_corner⟩
def b_all_edges : SS := (.ret (.bi .tuple (.cons (.lc2 .rng1 (.cons (.lit (.int 8)) .nil) (.name 0) .yes .rng2 (.cons (.op .add (.var 0) (.lit (.int 1))) (.cons (.lit (.int 8)) .nil)) (.name 1) (.op .inn (.op .xor (.var 0) (.var 1)) (.tup (.cons (.lit (.int 1)) (.cons (.lit (.int 2)) (.cons (.lit (.int 4)) .nil))))) (.tup (.cons (.var 0) (.cons (.var 1) .nil))) [0, 1] [1]) .nil)))
def d_all_edges : Df := ⟨0, 2, b_all_edges⟩
def b_check_edge : SS := (.seq (.ite (.not (.call 1 true [] (.cons (.var 0) (.cons (.lit (.int 2)) (.cons (.lit (.int 2)) .nil))))) (.rse 4 (.cons (.var 0) .nil)) .nop)
  (.seq (.asg (.tup (.cons (.name 1) (.cons (.name 2) .nil))) (.var 0))
  (.seq (.ite (.or (.not (.call 0 true [] (.cons (.var 1) (.cons (.lit (.int 0)) (.cons (.lit (.int 7)) .nil))))) (.or (.not (.call 0 true [] (.cons (.var 2) (.cons (.lit (.int 0)) (.cons (.lit (.int 7)) .nil))))) (.op .nin (.op .xor (.var 1) (.var 2)) (.tup (.cons (.lit (.int 1)) (.cons (.lit (.int 2)) (.cons (.lit (.int 4)) .nil))))))) (.rse 4 (.cons (.var 0) .nil)) .nop)
  (.ret (.tup (.cons (.bi .min2 (.cons (.var 1) (.cons (.var 2) .nil))) (.cons (.bi .max2 (.cons (.var 1) (.cons (.var 2) .nil))) .nil)))))))
def d_check_edge : Df := ⟨1, 3, b_check_edge⟩
def b_faces_of_edge : SS := (.seq (.asg (.tup (.cons (.name 1) (.cons (.name 2) .nil))) (.call 11 true [] (.cons (.var 0) .nil)))
  (.ret (.bi .tuple (.cons (.lc .seq (.call 9 true [] (.cons (.var 1) .nil)) (.name 3) (.op .inn (.var 3) (.call 9 false [] (.cons (.var 2) .nil))) (.var 3) [3]) .nil))))
def d_faces_of_edge : Df := ⟨1, 4, b_faces_of_edge⟩
def b_edge_between : SS := (.seq (.ite (.not (.call 7 true [] (.cons (.var 0) (.cons (.var 1) .nil)))) (.rse 5 (.cons (.var 0) (.cons (.var 1) .nil))) .nop)
  (.seq (.asg (.tup (.cons (.name 2) (.cons (.name 3) .nil))) (.call 14 true [] (.cons (.var 0) (.cons (.var 1) .nil))))
  (.ret (.tup (.cons (.bi .min2 (.cons (.var 2) (.cons (.var 3) .nil))) (.cons (.bi .max2 (.cons (.var 2) (.cons (.var 3) .nil))) .nil))))))
def d_edge_between : Df := ⟨2, 4, b_edge_between⟩
def b_edge_ends : SS := (.seq (.asg (.tup (.cons (.name 2) (.cons (.name 3) .nil))) (.op .ix (.con 0) (.var 0)))
  (.seq (.asg (.name 4) (.ifx (.op .eq (.op .div (.var 1) (.lit (.int 2))) (.var 2)) (.var 3) (.var 2)))
  (.seq (.asg (.name 5) (.op .or (.op .shl (.op .mod (.var 0) (.lit (.int 2))) (.op .sub (.lit (.int 2)) (.op .div (.var 0) (.lit (.int 2))))) (.op .shl (.op .mod (.var 1) (.lit (.int 2))) (.op .sub (.lit (.int 2)) (.op .div (.var 1) (.lit (.int 2)))))))
  (.seq (.par 6 7 (.cons (.var 5) (.cons (.op .or (.var 5) (.op .shl (.lit (.int 1)) (.op .sub (.lit (.int 2)) (.var 4)))) .nil)))
  (.seq (.ite (.op .eq (.op .eq (.var 4) (.var 3)) (.op .eq (.op .mod (.var 1) (.lit (.int 2))) (.lit (.int 1)))) (.ret (.tup (.cons (.var 6) (.cons (.var 7) .nil)))) .nop)
  (.ret (.tup (.cons (.var 7) (.cons (.var 6) .nil)))))))))
def d_edge_ends : Df := ⟨2, 8, b_edge_ends⟩
def b__law_axes : SS := (.ret (.op .ix (.tup (.cons (.tup (.cons (.lit (.int 2)) (.cons (.lit (.int 1)) .nil))) (.cons (.tup (.cons (.lit (.int 1)) (.cons (.lit (.int 2)) .nil))) (.cons (.tup (.cons (.lit (.int 0)) (.cons (.lit (.int 2)) .nil))) (.cons (.tup (.cons (.lit (.int 2)) (.cons (.lit (.int 0)) .nil))) (.cons (.tup (.cons (.lit (.int 1)) (.cons (.lit (.int 0)) .nil))) (.cons (.tup (.cons (.lit (.int 0)) (.cons (.lit (.int 1)) .nil))) .nil))))))) (.var 0)))
def d__law_axes : Df := ⟨1, 1, b__law_axes⟩
def b__law_tuples : SS := (.seq (.ite (.isi (.var 0) .tuple) (.ret (.notT (.lc .seq (.var 0) (.name 1) (.not (.call 19 false [] (.cons (.var 1) .nil))) (.lit (.int 1)) [1]))) .nop)
  (.ret (.or (.isN (.var 0)) (.and (.isi (.var 0) .int) (.not (.isi (.var 0) .bool))))))
def d__law_tuples : Df := ⟨1, 2, b__law_tuples⟩
def b__law_odd : SS := (.ret (.op .ix (.lst (.cons (.lit (.bl true)) (.cons (.lit .non) (.cons (.lit (.str (Str.ofString "1"))) (.cons (.neg (.lit (.int 1))) (.cons (.op .add (.var 1) (.lit (.int 1))) (.cons (.tup (.cons (.lit (.int 0)) .nil)) (.cons (.lit (.bl false)) (.cons (.op .add (.var 1) (.op .pow (.lit (.int 10)) (.lit (.int 20)))) .nil))))))))) (.take (.cons (.var 0) (.cons (.lit (.int 8)) .nil)))))
def d__law_odd : Df := ⟨2, 2, b__law_odd⟩
def b__law_rid : SS := (.ret (.op .ix (.lst (.cons (.lit .non) (.cons (.lit (.int 7)) (.cons (.lit (.str (Str.ofString "012"))) (.cons (.lit (.bl true)) .nil))))) (.take (.cons (.var 0) (.cons (.lit (.int 4)) .nil)))))
def d__law_rid : Df := ⟨1, 1, b__law_rid⟩
def b__law_whole : SS := (.ret (.and (.isi (.var 0) .int) (.and (.not (.isi (.var 0) .bool)) (.chain .le .le (.var 1) (.var 0) (.var 2)))))
def d__law_whole : Df := ⟨3, 3, b__law_whole⟩
def b__law_bits : SS := (.ret (.tup (.cons (.op .div (.var 0) (.lit (.int 4))) (.cons (.op .mod (.bi .int (.cons (.op .div (.var 0) (.lit (.int 2))) .nil)) (.lit (.int 2))) (.cons (.op .mod (.bi .int (.cons (.var 0) .nil)) (.lit (.int 2))) .nil)))))
def d__law_bits : Df := ⟨1, 1, b__law_bits⟩
def b__law_shaped : SS := (.retX (.op .eq (.take (.cons (.var 0) (.cons (.lit (.int 2)) .nil))) (.lit (.int 0))) (.bi .list (.cons (.var 1) .nil)) (.bi .tuple (.cons (.var 1) .nil)))
def d__law_shaped : Df := ⟨2, 2, b__law_shaped⟩
def b__law_box : SS := (.seq (.try (.asg (.name 1) (.newO 6 34 true (.cons (.var 0) .nil))) (.hcons 1 (some 2) (.ret (.lst (.cons (.lit (.str (Str.ofString "BadBox"))) (.cons (.xf 2 1 (Str.ofString "index")) .nil)))) (.hcons 0 none (.ret (.lst (.cons (.lit (.str (Str.ofString "other"))) .nil))) .hnil)))
  (.ret (.var 1)))
def d__law_box : Df := ⟨1, 3, b__law_box⟩
def b__law_asked : SS := (.seq (.try (.asg (.name 2) (.callV 0 true (.cons (.var 1) .nil))) (.hcons 3 (some 3) (.asg (.name 2) (.lst (.cons (.lit (.str (Str.ofString "BadFace"))) (.cons (.xf 3 3 (Str.ofString "face")) .nil)))) (.hcons 2 (some 3) (.asg (.name 2) (.lst (.cons (.lit (.str (Str.ofString "BadCorner"))) (.cons (.xf 3 2 (Str.ofString "corner")) .nil)))) (.hcons 4 (some 3) (.asg (.name 2) (.lst (.cons (.lit (.str (Str.ofString "BadEdge"))) (.cons (.xf 3 4 (Str.ofString "edge")) .nil)))) (.hcons 0 none (.asg (.name 2) (.lst (.cons (.lit (.str (Str.ofString "other"))) .nil))) .hnil)))))
  (.ret (.var 2)))
def d__law_asked : Df := ⟨2, 4, b__law_asked⟩
def b__law_between : SS := (.seq (.try (.asg (.name 3) (.callV 0 true (.cons (.var 1) (.cons (.var 2) .nil)))) (.hcons 3 (some 4) (.asg (.name 3) (.lst (.cons (.lit (.str (Str.ofString "BadFace"))) (.cons (.xf 4 3 (Str.ofString "face")) .nil)))) (.hcons 5 (some 4) (.asg (.name 3) (.lst (.cons (.lit (.str (Str.ofString "NoEdge"))) (.cons (.xf 4 5 (Str.ofString "face")) (.cons (.xf 4 5 (Str.ofString "beside")) .nil))))) (.hcons 0 none (.asg (.name 3) (.lst (.cons (.lit (.str (Str.ofString "other"))) .nil))) .hnil))))
  (.ret (.var 3)))
def d__law_between : Df := ⟨3, 5, b__law_between⟩
def b__law_plain : SS := (.ret (.ifx (.isi2 (.var 0) .list .tuple) (.bi .tuple (.cons (.lc .seq (.var 0) (.name 1) .yes (.call 28 false [] (.cons (.var 1) .nil)) [1]) .nil)) (.var 0)))
def d__law_plain : Df := ⟨1, 2, b__law_plain⟩
def b__law_like : SS := (.ret (.and (.op .eq (.call 28 true [] (.cons (.var 0) .nil)) (.call 28 true [] (.cons (.var 1) .nil))) (.eqR false (.call 28 true [] (.cons (.var 0) .nil)) (.call 28 true [] (.cons (.var 1) .nil)))))
def d__law_like : Df := ⟨2, 2, b__law_like⟩
def b__law_faces : SS := (.seq (.for .rng1 (.cons (.lit (.int 6)) .nil) (.name 1) (.seq (.asg (.name 2) (.bi .tuple (.cons (.lc .rng1 (.cons (.lit (.int 6)) .nil) (.name 3) (.op .ne (.op .div (.var 3) (.lit (.int 2))) (.op .div (.var 1) (.lit (.int 2)))) (.var 3) [3]) .nil)))
  (.seq (.ite (.or (.op .ne (.call 2 true [] (.cons (.var 1) .nil)) (.var 1)) (.or (.op .ne (.call 6 true [] (.cons (.var 1) .nil)) (.call 18 true [] (.cons (.var 1) .nil))) (.op .ne (.call 8 true [] (.cons (.var 1) .nil)) (.var 2)))) (.ret (.lit (.bl false))) .nop)
  (.for .rng1 (.cons (.lit (.int 6)) .nil) (.name 3) (.seq (.ite (.op .ne (.call 7 true [] (.cons (.var 1) (.cons (.var 3) .nil))) (.op .inn (.var 3) (.var 2))) (.ret (.lit (.bl false))) .nop)
  (.seq (.asg (.name 4) (.lc .rng1 (.cons (.lit (.int 8)) .nil) (.name 5) (.and (.op .eq (.op .ix (.call 23 false [] (.cons (.var 5) .nil)) (.op .div (.var 1) (.lit (.int 2)))) (.op .mod (.bi .int (.cons (.var 1) .nil)) (.lit (.int 2)))) (.op .eq (.op .ix (.call 23 false [] (.cons (.var 5) .nil)) (.op .div (.var 3) (.lit (.int 2)))) (.op .mod (.bi .int (.cons (.var 3) .nil)) (.lit (.int 2))))) (.var 5) [5]))
  (.ite (.op .inn (.var 3) (.var 2)) (.ite (.or (.op .ne (.call 13 true [] (.cons (.var 1) (.cons (.var 3) .nil))) (.bi .tuple (.cons (.var 4) .nil))) (.op .ne (.call 12 true [] (.cons (.var 4) .nil)) (.bi .tuple (.cons (.bi .sorted (.cons (.lst (.cons (.var 1) (.cons (.var 3) .nil))) .nil)) .nil)))) (.ret (.lit (.bl false))) .nop) (.ite (.op .ne (.call 27 true [] (.cons (.fnv 13) (.cons (.var 1) (.cons (.var 3) .nil)))) (.lst (.cons (.lit (.str (Str.ofString "NoEdge"))) (.cons (.var 1) (.cons (.var 3) .nil))))) (.ret (.lit (.bl false))) .nop))))))))
  (.seq (.asg (.name 6) (.call 20 true [] (.cons (.var 0) (.cons (.lit (.int 5)) .nil))))
  (.seq (.for .seq (.lst (.cons (.fnv 2) (.cons (.fnv 6) (.cons (.fnv 8) .nil)))) (.name 7) (.ite (.not (.call 29 true [] (.cons (.call 26 true [] (.cons (.var 7) (.cons (.var 6) .nil))) (.cons (.lst (.cons (.lit (.str (Str.ofString "BadFace"))) (.cons (.var 6) .nil))) .nil)))) (.ret (.lit (.bl false))) .nop))
  (.seq (.asg (.name 8) (.take (.cons (.var 0) (.cons (.lit (.int 6)) .nil))))
  (.seq (.for .seq (.lst (.cons (.fnv 7) (.cons (.fnv 13) .nil))) (.name 7) (.ite (.or (.not (.call 29 true [] (.cons (.call 27 true [] (.cons (.var 7) (.cons (.var 6) (.cons (.neg (.lit (.int 7))) .nil)))) (.cons (.lst (.cons (.lit (.str (Str.ofString "BadFace"))) (.cons (.var 6) .nil))) .nil)))) (.not (.call 29 true [] (.cons (.call 27 true [] (.cons (.var 7) (.cons (.var 8) (.cons (.var 6) .nil)))) (.cons (.lst (.cons (.lit (.str (Str.ofString "BadFace"))) (.cons (.var 6) .nil))) .nil))))) (.ret (.lit (.bl false))) .nop))
  (.ret (.lit (.bl true))))))))
def d__law_faces : Df := ⟨1, 9, b__law_faces⟩
def b__law_edges : SS := (.seq (.asgO 1 (.lst .nil))
  (.seq (.for .rng1 (.cons (.lit (.int 8)) .nil) (.name 2) (.for .rng2 (.cons (.op .add (.var 2) (.lit (.int 1))) (.cons (.lit (.int 8)) .nil)) (.name 3) (.ite (.op .eq (.bi .sum (.cons (.lc .rng1 (.cons (.lit (.int 3)) .nil) (.name 4) .yes (.bi .abs (.cons (.op .sub (.op .ix (.call 23 false [] (.cons (.var 2) .nil)) (.var 4)) (.op .ix (.call 23 false [] (.cons (.var 3) .nil)) (.var 4))) .nil)) [4]) .nil)) (.lit (.int 1))) (.app 1 (.tup (.cons (.var 2) (.cons (.var 3) .nil)))) .nop)))
  (.seq (.ite (.op .ne (.call 10 true [] .nil) (.tupO 1)) (.ret (.lit (.bl false))) .nop)
  (.seq (.keep 1 (.for .seq (.var 1) (.name 5) (.ite (.or (.op .ne (.call 11 true [] (.cons (.lst (.cons (.op .ix (.var 5) (.lit (.int 1))) (.cons (.op .ix (.var 5) (.lit (.int 0))) .nil))) .nil)) (.var 5)) (.op .ne (.call 11 true [] (.cons (.var 5) .nil)) (.var 5))) (.ret (.lit (.bl false))) .nop)))
  (.seq (.for .rng1 (.cons (.lit (.int 8)) .nil) (.name 6) (.seq (.asg (.name 7) (.call 23 true [] (.cons (.var 6) .nil)))
  (.ite (.or (.op .ne (.call 3 true [] (.cons (.var 6) .nil)) (.var 6)) (.op .ne (.call 9 true [] (.cons (.var 6) .nil)) (.tup (.cons (.op .ix (.var 7) (.lit (.int 0))) (.cons (.op .add (.lit (.int 2)) (.op .ix (.var 7) (.lit (.int 1)))) (.cons (.op .add (.lit (.int 4)) (.op .ix (.var 7) (.lit (.int 2)))) .nil)))))) (.ret (.lit (.bl false))) .nop)))
  (.seq (.asg (.name 2) (.take (.cons (.var 0) (.cons (.lit (.int 8)) .nil))))
  (.seq (.asg (.name 3) (.take (.cons (.var 0) (.cons (.lit (.int 8)) .nil))))
  (.seq (.asg (.name 8) (.op .ix (.lst (.cons (.tup (.cons (.var 2) (.cons (.var 3) .nil))) (.cons (.lst (.cons (.var 3) (.cons (.var 2) .nil))) (.cons (.tup (.cons (.var 2) (.cons (.call 20 true [] (.cons (.var 0) (.cons (.lit (.int 7)) .nil))) .nil))) (.cons (.tup (.cons (.var 2) .nil)) (.cons (.tup (.cons (.lit (.int 0)) (.cons (.lit (.int 1)) (.cons (.lit (.int 3)) .nil)))) (.cons (.tup (.cons (.call 20 true [] (.cons (.var 0) (.cons (.lit (.int 7)) .nil))) (.cons (.var 3) .nil))) (.cons (.var 2) .nil)))))))) (.take (.cons (.var 0) (.cons (.lit (.int 7)) .nil)))))
  (.seq (.asg (.name 9) (.and (.isi2 (.var 8) .list .tuple) (.and (.op .eq (.bi .len (.cons (.var 8) .nil)) (.lit (.int 2))) (.and (.call 22 true [] (.cons (.op .ix (.var 8) (.lit (.int 0))) (.cons (.lit (.int 0)) (.cons (.lit (.int 7)) .nil)))) (.call 22 true [] (.cons (.op .ix (.var 8) (.lit (.int 1))) (.cons (.lit (.int 0)) (.cons (.lit (.int 7)) .nil))))))))
  (.seq (.asg (.name 10) (.ifx (.var 9) (.bi .tuple (.cons (.bi .sorted (.cons (.var 8) .nil)) .nil)) (.lit .non)))
  (.seq (.asg (.name 11) (.call 26 true [] (.cons (.fnv 11) (.cons (.var 8) .nil))))
  (.seq (.keep 1 (.ite (.op .inn (.var 10) (.var 1)) (.ite (.or (.op .ne (.var 11) (.var 10)) (.op .ne (.call 26 true [] (.cons (.fnv 12) (.cons (.var 8) .nil))) (.call 12 true [] (.cons (.var 10) .nil)))) (.ret (.lit (.bl false))) .nop) (.ite (.or (.not (.call 29 true [] (.cons (.var 11) (.cons (.lst (.cons (.lit (.str (Str.ofString "BadEdge"))) (.cons (.var 8) .nil))) .nil)))) (.not (.call 29 true [] (.cons (.call 26 true [] (.cons (.fnv 12) (.cons (.var 8) .nil))) (.cons (.lst (.cons (.lit (.str (Str.ofString "BadEdge"))) (.cons (.var 8) .nil))) .nil))))) (.ret (.lit (.bl false))) .nop)))
  (.seq (.asg (.name 12) (.call 20 true [] (.cons (.var 0) (.cons (.lit (.int 7)) .nil))))
  (.ret (.and (.call 29 true [] (.cons (.call 26 true [] (.cons (.fnv 3) (.cons (.var 12) .nil))) (.cons (.lst (.cons (.lit (.str (Str.ofString "BadCorner"))) (.cons (.var 12) .nil))) .nil))) (.call 29 true [] (.cons (.call 26 true [] (.cons (.fnv 9) (.cons (.var 12) .nil))) (.cons (.lst (.cons (.lit (.str (Str.ofString "BadCorner"))) (.cons (.var 12) .nil))) .nil))))))))))))))))))
def d__law_edges : Df := ⟨1, 13, b__law_edges⟩
def b__law_spoilt : SS := (.seq (.asg (.name 2) (.take (.cons (.var 0) (.cons (.lit (.int 8)) .nil))))
  (.seq (.ite (.op .eq (.var 2) (.lit (.int 0))) (.ret (.lst (.cons (.call 21 true [] (.cons (.var 0) .nil)) (.cons (.lit (.int 0)) .nil)))) .nop)
  (.seq (.ite (.op .eq (.var 2) (.lit (.int 1))) (.ret (.lst (.cons (.op .ix (.lst (.cons (.slc (.var 1) .nop (.part (.lit (.int 2)))) (.cons (.op .add (.var 1) (.lst (.cons (.lit (.int 1)) .nil))) (.cons (.lst .nil) .nil)))) (.take (.cons (.var 0) (.cons (.lit (.int 3)) .nil)))) (.cons (.lit (.int 0)) .nil)))) .nop)
  (.seq (.ite (.op .lt (.var 2) (.lit (.int 5))) (.seq (.asgO 3 (.bi .list (.cons (.var 1) .nil)))
  (.seq (.for .rng1 (.cons (.op .add (.lit (.int 1)) (.take (.cons (.var 0) (.cons (.lit (.int 2)) .nil)))) .nil) (.name 4) (.setO 3 (.take (.cons (.var 0) (.cons (.lit (.int 3)) .nil))) (.op .ix (.lst (.cons (.lit (.int 0)) (.cons (.call 20 true [] (.cons (.var 0) (.cons (.lit (.int 60)) .nil))) (.cons (.lit (.int 61)) .nil)))) (.take (.cons (.var 0) (.cons (.lit (.int 3)) .nil))))))
  (.keep 3 (.ret (.lst (.cons (.var 3) (.cons (.op .ix (.lc .rng1 (.cons (.lit (.int 3)) .nil) (.name 5) (.not (.call 22 false [] (.cons (.ixO 3 (.var 5)) (.cons (.lit (.int 1)) (.cons (.lit (.int 60)) .nil))))) (.var 5) [5]) (.lit (.int 0))) .nil))))))) .nop)
  (.ret (.lst (.cons (.var 1) (.cons (.lit .non) .nil))))))))
def d__law_spoilt : Df := ⟨2, 6, b__law_spoilt⟩
def b_law : SS := (.seq (.asg (.name 2) (.lc .rng1 (.cons (.lit (.int 3)) .nil) (.name 3) .yes (.op .add (.lit (.int 1)) (.take (.cons (.var 1) (.cons (.lit (.int 60)) .nil)))) [3]))
  (.seq (.asgC 4 24 true [] (.cons (.var 1) (.cons (.var 2) .nil)))
  (.seq (.asg (.name 5) (.lend 4 (.call 25 true [] (.cons (.var 4) .nil))))
  (.seq (.ite (.or (.not (.isC (.var 5) 6)) (.or (.op .ne (.fld (.var 5) (Str.ofString "sides")) (.bi .tuple (.cons (.var 2) .nil))) (.not (.call 19 true [] (.cons (.fld (.var 5) (Str.ofString "sides")) .nil))))) (.ret (.lit (.bl false))) .nop)
  (.seq (.ite (.lend 4 (.isi (.var 4) .list)) (.setO 4 (.lit (.int 0)) (.lit (.int 0))) .nop)
  (.seq (.asg (.tup (.cons (.name 6) (.cons (.name 7) (.cons (.name 8) .nil)))) (.var 2))
  (.seq (.ite (.or (.op .ne (.fld (.var 5) (Str.ofString "sides")) (.tup (.cons (.var 6) (.cons (.var 7) (.cons (.var 8) .nil))))) (.op .ne (.prp 6 36 (.var 5)) (.op .mul (.lit (.int 2)) (.op .add (.op .add (.op .mul (.var 6) (.var 7)) (.op .mul (.var 7) (.var 8))) (.op .mul (.var 8) (.var 6)))))) (.ret (.lit (.bl false))) .nop)
  (.seq (.asgO 9 (.lst .nil))
  (.seq (.for .rng1 (.cons (.lit (.int 8)) .nil) (.name 10) (.seq (.asg (.name 11) (.call 23 true [] (.cons (.var 10) .nil)))
  (.app 9 (.bi .tuple (.cons (.lc .rng1 (.cons (.lit (.int 3)) .nil) (.name 3) .yes (.tup (.cons (.op .mul (.op .ix (.var 11) (.var 3)) (.op .ix (.var 2) (.var 3))) (.cons (.lit (.int 1)) .nil))) [3]) .nil)))))
  (.seq (.ite (.or (.op .ne (.prp 6 37 (.var 5)) (.tupO 9)) (.not (.call 19 true [] (.cons (.prp 6 37 (.var 5)) .nil)))) (.ret (.lit (.bl false))) .nop)
  (.seq (.asg (.name 12) (.lc .seq (.var 2) (.name 13) .yes (.ifx (.op .eq (.take (.cons (.var 1) (.cons (.lit (.int 2)) .nil))) (.lit (.int 0))) (.op .add (.lit (.int 1)) (.take (.cons (.var 1) (.cons (.lit (.int 60)) .nil)))) (.var 13)) [13]))
  (.seq (.ite (.or (.op .ne (.eqO false 6 35 (.newO 6 34 true (.cons (.var 12) .nil)) (.var 5)) (.op .eq (.var 12) (.var 2))) (.op .ne (.eqO true 6 35 (.newO 6 34 true (.cons (.var 12) .nil)) (.var 5)) (.op .ne (.var 12) (.var 2)))) (.ret (.lit (.bl false))) .nop)
  (.seq (.asg (.tup (.cons (.name 14) (.cons (.name 15) .nil))) (.call 32 true [] (.cons (.var 1) (.cons (.var 2) .nil))))
  (.seq (.asg (.name 16) (.call 25 true [] (.cons (.var 14) .nil)))
  (.seq (.ite (.isN (.var 15)) (.ite (.or (.not (.isC (.var 16) 6)) (.eqO true 6 35 (.var 16) (.var 5))) (.ret (.lit (.bl false))) .nop) (.ite (.op .ne (.var 16) (.lst (.cons (.lit (.str (Str.ofString "BadBox"))) (.cons (.var 15) .nil)))) (.ret (.lit (.bl false))) .nop))
  (.ret (.and (.call 30 true [] (.cons (.var 1) .nil)) (.and (.call 31 true [] (.cons (.var 1) .nil)) (.op .eq (.fld (.var 5) (Str.ofString "sides")) (.bi .tuple (.cons (.var 2) .nil)))))))))))))))))))))
def b_Box___init__ : SS := (.seq (.ite (.not (.call 1 true [] (.cons (.var 1) (.cons (.lit (.int 3)) (.cons (.lit (.int 3)) .nil))))) (.rse 1 (.cons (.lit (.int 0)) .nil)) .nop)
  (.seq (.for .enum (.cons (.var 1) .nil) (.tup (.cons (.name 2) (.cons (.name 3) .nil))) (.ite (.not (.call 0 true [] (.cons (.var 3) (.cons (.lit (.int 1)) (.cons (.lit (.int 60)) .nil))))) (.rse 1 (.cons (.var 2) .nil)) .nop))
  (.setF (Str.ofString "sides") (.bi .tuple (.cons (.var 1) .nil)))))
def d_Box___init__ : Df := ⟨2, 4, b_Box___init__⟩
def b_Box___eq__ : SS := (.ret (.and (.isC (.var 1) 6) (.op .eq (.fld (.var 0) (Str.ofString "sides")) (.fld (.var 1) (Str.ofString "sides")))))
def d_Box___eq__ : Df := ⟨2, 2, b_Box___eq__⟩
def b_Box_skin_area : SS := (.seq (.asg (.tup (.cons (.name 1) (.cons (.name 2) (.cons (.name 3) .nil)))) (.fld (.var 0) (Str.ofString "sides")))
  (.ret (.op .mul (.lit (.int 2)) (.op .add (.op .add (.op .mul (.var 1) (.var 2)) (.op .mul (.var 2) (.var 3))) (.op .mul (.var 3) (.var 1))))))
def d_Box_skin_area : Df := ⟨1, 4, b_Box_skin_area⟩
def b_Box_corner_places : SS := (.seq (.asg (.name 1) (.lc .rng1 (.cons (.lit (.int 8)) .nil) (.name 2) .yes (.call 5 false [] (.cons (.var 0) (.cons (.var 2) .nil))) [2]))
  (.ret (.bi .tuple (.cons (.lc .seq (.var 1) (.name 4) .yes (.bi .tuple (.cons (.lc .seq (.var 4) (.name 3) .yes (.tup (.cons (.var 3) (.cons (.lit (.int 1)) .nil))) [3]) .nil)) [4]) .nil))))
def d_Box_corner_places : Df := ⟨1, 5, b_Box_corner_places⟩
def dfs : List (Option Df) := [some d_is_whole, some d_is_sequence, some d_check_face, some d_check_corner, some d_corner_bit, some d_corner_numbers, some d_face_axes, some d_are_beside, some d_faces_beside, some d_faces_of_corner, some d_all_edges, some d_check_edge, some d_faces_of_edge, some d_edge_between, some d_edge_ends, none, none, none, some d__law_axes, some d__law_tuples, some d__law_odd, some d__law_rid, some d__law_whole, some d__law_bits, some d__law_shaped, some d__law_box, some d__law_asked, some d__law_between, some d__law_plain, some d__law_like, some d__law_faces, some d__law_edges, some d__law_spoilt, none, some d_Box___init__, some d_Box___eq__, some d_Box_skin_area, some d_Box_corner_places]
def cons : List D := [(.tup [(.tup [(.int 2), (.int 1)]), (.tup [(.int 1), (.int 2)]), (.tup [(.int 0), (.int 2)]), (.tup [(.int 2), (.int 0)]), (.tup [(.int 1), (.int 0)]), (.tup [(.int 0), (.int 1)])])]
def xfs : List (List Str) := [[], [Str.ofString "index"], [Str.ofString "corner"], [Str.ofString "face"], [Str.ofString "edge"], [Str.ofString "beside", Str.ofString "face"], [Str.ofString "sides"]]
def flds : List (List Str) := [[], [], [], [], [], [], [Str.ofString "sides"]]
def inis : List (Nat × Nat) := [(34, 6)]
def subs : List ((Nat × Nat) × Bool) := [((1, 1), true), ((1, 2), false), ((1, 4), false), ((1, 3), false), ((1, 5), false), ((1, 0), true), ((2, 1), false), ((2, 2), true), ((2, 4), false), ((2, 3), false), ((2, 5), false), ((2, 0), true), ((4, 1), false), ((4, 2), false), ((4, 4), true), ((4, 3), false), ((4, 5), false), ((4, 0), true), ((3, 1), false), ((3, 2), false), ((3, 4), false), ((3, 3), true), ((3, 5), false), ((3, 0), true), ((5, 1), false), ((5, 2), false), ((5, 4), false), ((5, 3), false), ((5, 5), true), ((5, 0), true)]
def iscs : List ((Option Nat × Nat) × Bool) := [((none, 6), false), ((some 6, 6), true)]
def tx : Text := ⟨fun i => (dfs[i]?).join, fun k => cons.getD k (.adr 0), fun c => flds.getD c [], fun c => xfs.getD c [], fun a b => subs.lookup (a, b), 100000, fun f => [7, 3, 11, 2, 13, 6, 8, 9, 12].contains f, fun f => inis.lookup f, fun j k => iscs.lookup (j, k), fun f => [24].contains f⟩
end K02
set_option Elab.async false
set_option linter.all false
set_option maxRecDepth 100000
namespace PySem
open Sem (wp)
open AutoSeq1 (wpAny_loadPart')
section
variable {prog : Program} {w : World} {A : Around} {E : Value → Shared → Prop} {s : Shared}
theorem fz_next_tuple {it t : Addr} {i : Nat} {items} {x : Value} {Q : Value → Shared → Prop} (hit : s.heap.IsTupleIter it t i)
    (ht : s.heap.IsTuple t items) (hx : items[i]? = some x)
    (hQ : ∀ h', h'.IsTupleIter it t (i + 1) → Heap.SameBut it s.heap h' → Q x { s with heap := h' }) :
    wpAny (model prog w) A (Builtin.SmallTypes.nextOf (.ref it)) Q E s := by
  obtain ⟨o, ho, hc, hd⟩ := id hit
  obtain ⟨ol, hol, _, nl, hdl⟩ := ht
  unfold Builtin.SmallTypes.nextOf
  refine wpAny_bind (wpAny_callSpecial?_slot (name := Str.ofString "__next__") hit.typeIs F.slot_tuple_iterator_next
    (wpAny_call_entry F.slot_tuple_iterator_next hit.typeIs F.entry_tuple_iterator_next ?_ (F.args_tuple_iterator_next_1 _)))
  change wpAny _ _ (do let q ← field (.ref it) 0; _) _ _ s
  refine wpAny_bind (wpAny_field ho hd (x := .ref t) rfl ?_)
  have nn : ¬ ((Value.ref t == Value.none) = true) := Bool.false_ne_true
  change wpAny _ _ (if (Value.ref t == Value.none) = true then _ else _) _ _ s
  rw [if_neg nn]
  change wpAny _ _ (do let q ← field (.ref it) 1; _) _ _ s
  refine wpAny_bind (wpAny_field ho hd (x := .int i 0) rfl ?_)
  change wpAny _ _ (do let q ← seqItems? (.ref t); _) _ _ s
  refine wpAny_bind (wpAny_seqItems hol hdl ?_)
  simp only [Int.toNat_natCast, hx]
  refine wpAny_bind (wpAny_setField ho hd (by simp) (wpAny_pure ⟨x, rfl, wpAny_pure (hQ _ ?_ (Heap.SameBut.update ..))⟩))
  refine ⟨_, Heap.get?_update_self _ ho (Obj.isFreed_of_fields (Obj.data_mapFields hd _)), (Obj.cls_mapFields ..).trans hc, ?_⟩
  rw [Obj.data_mapFields hd]; simp [rawInt]
theorem fz_end_tuple {it t : Addr} {i : Nat} {items} {Q : Value → Shared → Prop} (hh : A.handled = none)
    (hit : s.heap.IsTupleIter it t i) (ht : s.heap.IsTuple t items) (hx : items[i]? = none)
    (hE : ∀ h' e, Heap.ExtBut it s.heap h' → (∃ o, h'.get? e = some o ∧ o.cls = .type "StopIteration") → E (.ref e) { s with heap := h' }) :
    wpAny (model prog w) A (Builtin.SmallTypes.nextOf (.ref it)) Q E s := by
  obtain ⟨o, ho, hc, hd⟩ := id hit
  obtain ⟨ol, hol, _, nl, hdl⟩ := ht
  unfold Builtin.SmallTypes.nextOf
  refine wpAny_bind (wpAny_callSpecial?_slot (name := Str.ofString "__next__") hit.typeIs F.slot_tuple_iterator_next
    (wpAny_call_entry F.slot_tuple_iterator_next hit.typeIs F.entry_tuple_iterator_next ?_ (F.args_tuple_iterator_next_1 _)))
  change wpAny _ _ (do let q ← field (.ref it) 0; _) _ _ s
  refine wpAny_bind (wpAny_field ho hd (x := .ref t) rfl ?_)
  have nn : ¬ ((Value.ref t == Value.none) = true) := Bool.false_ne_true
  change wpAny _ _ (if (Value.ref t == Value.none) = true then _ else _) _ _ s
  rw [if_neg nn]
  change wpAny _ _ (do let q ← field (.ref it) 1; _) _ _ s
  refine wpAny_bind (wpAny_field ho hd (x := .int i 0) rfl ?_)
  change wpAny _ _ (do let q ← seqItems? (.ref t); _) _ _ s
  refine wpAny_bind (wpAny_seqItems hol hdl ?_)
  simp only [Int.toNat_natCast, hx]
  refine wpAny_bind (wpAny_rule (wpAny_bind (wpAny_setField ho hd (by simp) ?_)))
  change wpAny _ _ (do let q ← newExc (.type "StopIteration") []; _) _ _ _
  refine wpAny_bind ?_
  simp only [newExc, newTuple]
  refine wpAny_bind (wpAny_newObj_type ?_ (by size_fits))
  refine wpAny_bind (m := firstArgMember _ _) (wpAny_of_eq (a := Value.none) (by first | rfl | (simp only [firstArgMember]; rfl)) ?_)
  refine wpAny_newObj_type ?_ (by size_fits)
  simp only [raiseNew]
  refine wpAny_bind (wpAny_handled ?_)
  first | rw [show A.in1.handled = none from hh] | rw [hh]
  refine wpAny_bind (wpAny_pure (wpAny_throw ?_))
  exact hE _ _ (((Heap.SameBut.update ..).extBut.push _).push _) ⟨_, Heap.get?_push_size _ rfl, rfl⟩
end
theorem Draws.fzTuple {prog : Program} {w : World} {A : Around} (hh : A.handled = none) (it t : Addr) (hne : t ≠ it) (items : Array Value) :
    Draws prog w A it [it, t] items.size (fun i v => items[i]? = some v) (fun i h => h.IsTupleIter it t i ∧ h.IsTuple t items) where
  live := fun _ _ st => let ⟨o, ho, _⟩ := st.1; ⟨o, ho⟩
  frame := fun _ _ _ st hk => ⟨st.1.at fun o e => hk it (by simp) o e, let ⟨o, ho, r⟩ := st.2; ⟨o, hk t (by simp) o ho, r⟩⟩
  item := fun i s Q E hi st hQ => by
    refine fz_next_tuple st.1 st.2 (x := items[i]) (by simp [hi]) fun h' hit' hs' => ?_
    refine hQ _ h' s.toks (by simp [hi]) ⟨hit', ?_⟩ hs'
    obtain ⟨o, ho, r⟩ := st.2
    exact ⟨o, hs'.extBut t o hne ho, r⟩
  done := fun s Q E st hE => fz_end_tuple hh st.1 st.2 (by simp) hE
theorem fz_new_enum (l : Addr) (items : Array Value) (n : Nat) (dct : Option Addr) (sl : Array (Option Value)) :
    Meets (Builtin.«enumerate.__new__» ⟨[.type "enumerate", .ref l], []⟩) (fun _ R s => s.heap.get? l = some { cls := .type "tuple", dict := dct, data := .seq items n, slots := sl } ∧
      R (.ok (.ret (.ref (s.heap.push { cls := .type "tuple_iterator", data := .fields #[.ref l, .int 0 0] }).objs.size)))
        { s with heap := (s.heap.push { cls := .type "tuple_iterator", data := .fields #[.ref l, .int 0 0] }).push { cls := .type "enumerate", data := .fields #[.none, .bool false, .ref s.heap.objs.size, rawInt 0, .none, .none] } }) :=
  .of_wp fun prog w A R s h => by
    obtain ⟨hp, g, d, tk, os⟩ := s; obtain ⟨hl, h⟩ := h
    have hsub := sub_enumerate
    have hL : Heap.IsTuple (Shared.heap ⟨hp, g, d, tk, os⟩) l items := ⟨_, hl, rfl, n, rfl⟩
    wp_walk using wpAny_loadPart' hl
    refine wpAny_stack_any fun st => wpAny_pure ?_
    split
    · rename_i c _ _ _ _ _
      cases (c == Value.type "enumerate")
      · wp_walk using wpAny_loadPart' hl, wpAny_pyIter_tuple hL
        exact ⟨_, rfl, h⟩
      · wp_walk using wpAny_loadPart' hl, wpAny_pyIter_tuple hL
        exact ⟨_, rfl, h⟩
    · wp_walk using wpAny_loadPart' hl, wpAny_pyIter_tuple hL
      exact ⟨_, rfl, h⟩
theorem fz_call_enum {prog : Program} {w : World} {A : Around} {E : Value → Shared → Prop} {s : Shared} {l : Addr} {items : Array Value} {Q : Value → Shared → Prop} (hL : s.heap.IsTuple l items)
    (h : ∀ h', IsEnum h' (s.heap.objs.size + 1) s.heap.objs.size 0 .none → h'.IsTupleIter s.heap.objs.size l 0 → h'.objs.size = s.heap.objs.size + 2 →
      (∀ b o, s.heap.get? b = some o → h'.get? b = some o) → Q (.ref (s.heap.objs.size + 1)) { s with heap := h' }) :
    wpAny (model prog w) A (call (.type "enumerate") [.ref l]) Q E s := by
  obtain ⟨⟨c, dct, dt, sl⟩, hl, hc, n, hd⟩ := hL
  replace hc : c = .type "tuple" := hc
  replace hd : dt = .seq items n := hd
  subst hc hd
  refine callType_new F.called_enumerate (by decide) (F.typeCall_enumerate_1 _) (F.newCall_enumerate_1 _) (fun obj => F.args_object_init_2 obj _) F.entry_enumerate_new
    (fz_new_enum l items n dct sl) ⟨hl, ?_⟩
  have hz : (s.heap.push { cls := .type "tuple_iterator", data := .fields #[.ref l, .int 0 0] }).objs.size = s.heap.objs.size + 1 := Heap.size_push ..
  show _ ∧ _
  rw [hz]
  have he : IsEnum ((s.heap.push { cls := .type "tuple_iterator", data := .fields #[.ref l, .int 0 0] }).push
      { cls := .type "enumerate", data := .fields #[.none, .bool false, .ref s.heap.objs.size, rawInt 0, .none, .none] }) (s.heap.objs.size + 1) s.heap.objs.size 0 .none := by
    have := Heap.get?_push_size (s.heap.push { cls := .type "tuple_iterator", data := .fields #[.ref l, .int 0 0] })
      (o := { cls := .type "enumerate", data := .fields #[.none, .bool false, .ref s.heap.objs.size, rawInt 0, .none, .none] }) rfl
    rw [hz] at this; exact this
  exact ⟨⟨_, he, rfl⟩, h _ he ⟨_, Heap.get?_push_of_some _ (Heap.get?_push_size _ rfl), rfl, rfl⟩ (by rw [Heap.size_push, hz]) fun b o x => Heap.get?_push_of_some _ (Heap.get?_push_of_some _ x)⟩
end PySem
namespace Ez
open L2 PySem PyProof.Rows PySem.Spec
/-- the tuple at a, each item in a new pair -/
def IteT (K : PySem.W.Frag) (a : Addr) : It :=
  ⟨fun i H => ∃ (xs : List V) (x : V), SqT K H a xs ∧ xs[i]? = some x, fun i H v H' => ∃ T x, v = .ref T ∧ H T = none ∧ H' = upd H T (.tup [.int (i : Nat), x]) ∧ ∀ xs, SqT K H a xs → xs[i]? = some x, fun i H => ∃ xs : List V, SqT K H a xs ∧ xs.length ≤ i⟩
theorem turn_enumT {P : Program} {w : World} {K : PySem.W.Frag} {elts : List Expr} {kk : Nat} {tpos : Pos} (a e it : Addr) (hai : a ≠ it) (hae : a ≠ e) :
    Turn P w K (.Tuple elts kk tpos) (IteT K a) [e, it] e (fun i h => (∃ old, IsEnum h e it ((i : Nat) : Int) old) ∧ h.IsTupleIter it a i ∧ e ≠ it) where
  mem := by simp
  obj := fun i h st b hb => by
    obtain ⟨⟨old, he⟩, ⟨o, ho, hc, hd⟩, _⟩ := st
    have e' : b = e ∨ b = it := by simpa using hb
    rcases e' with z | z
    · rw [z]; exact ⟨_, he, fun v q => nomatch q⟩
    · rw [z]; exact ⟨o, ho, fun v q => by rw [hd] at q; cases q⟩
  keep := fun i h h' st k => let ⟨⟨old, he⟩, hi, hne⟩ := st; ⟨⟨old, k e (by simp) _ he⟩, hi.at fun o q => k it (by simp) o q, hne⟩
  item := by
    intro X hP hw hK hc i pins s σ H E I hf st hg
    subst hP hw hK
    obtain ⟨⟨old, he⟩, hit, hne⟩ := st
    obtain ⟨xs, x, hq, hx⟩ := hg
    obtain ⟨its, rv, p, hz⟩ := I.tuple hq
    obtain ⟨u, hu, ru⟩ := rv.get hx
    have p' : s.heap.IsTuple a its.toArray := p
    have hel : e < s.heap.objs.size := Heap.lt_size he
    have hil : it < s.heap.objs.size := by obtain ⟨_, q, _⟩ := hit; exact Heap.lt_size q
    have hlt : i < its.toArray.size := by
      have := (List.getElem?_eq_some_iff.mp (by simpa using hu)).1
      simpa using this
    refine wpAny_pyNext_enum_itemD (Draws.fzTuple (show X.A.in1.handled = none from I.ok.hd hc) it a hai its.toArray) he ⟨hit, p'⟩ hlt hne (by simp [hne, Ne.symm hae]) fun x' h' tk hx' ho hst' hT hsz hk => ?_
    have ex : x' = u := by
      have h1 : its.toArray[i]? = some u := by simpa using hu
      exact Option.some.inj (hx'.symm.trans h1)
    subst ex
    obtain ⟨hit', _⟩ := hst'
    refine ⟨_, rfl, wpAny_letOwnedTupleGo_enum (s := { s with heap := h', toks := tk + 1 }) ho fun h'' he' sb => ?_⟩
    have hT2 : h''.get? s.heap.objs.size = some { cls := .type "tuple", data := .seq #[.int i tk, x'] } := (sb.2 _ (Nat.ne_of_gt hel)).trans hT
    have new : ObjOk X.prog X.w (upd H s.heap.objs.size (.tup [.int (i : Nat), x])) h'' s.heap.objs.size (.tup [.int (i : Nat), x]) :=
      ⟨by show 2 ≤ sizeLine; decide, [.int i tk, x'], .cons ⟨_, rfl⟩ (.cons ru .nil), ⟨_, hT2, rfl, _, rfl⟩⟩
    have I1 : Inv X pins σ (upd H s.heap.objs.size (.tup [.int (i : Nat), x])) { s with heap := h'', toks := tk + 1 } :=
      I.turnedNew (ch := [e, it]) (fun b ob hb q => (sb.2 b (fun z => hb (by simp [z]))).trans (hk b ob (fun z => hb (by simp [z])) (fun z => hb (by simp [z])) q)) hf (Nat.le_refl _) new
    refine ⟨.ref s.heap.objs.size, _, I1, rfl, ⟨_, x, rfl, I.hok.fresh (Nat.le_refl _), rfl, fun ys hy => by rw [I.tuple_inj hy hq]; exact hx⟩, ⟨⟨x', ?_⟩, hit'.at fun o q => (sb.2 it (Ne.symm hne)).trans q, hne⟩, fun b hb => ?_⟩
    · have e1 : ((i + 1 : Nat) : Int) = (i : Int) + 1 := by omega
      rw [e1]; exact he'
    · have hb' : b < s.heap.objs.size := by
        have e' : b = e ∨ b = it := by simpa using hb
        rcases e' with z | z
        · rw [z]; exact hel
        · rw [z]; exact hil
      rw [upd_ne (Nat.ne_of_lt hb')]
      exact (hf b hb).1
  done := by
    intro X hP hw hK hc i pins s σ H E I hf st hg
    subst hP hw hK
    obtain ⟨⟨old, he⟩, hit, hne⟩ := st
    obtain ⟨xs, hq, hx⟩ := hg
    obtain ⟨its, rv, p, hz⟩ := I.tuple hq
    have p' : s.heap.IsTuple a its.toArray := p
    obtain ⟨f0, f1, f2, f3, f4, f5⟩ := hf it (by simp)
    have hl := rv.length
    have D := Draws.fzTuple (prog := X.prog) (w := X.w) (show X.A.in1.handled = none from I.ok.hd hc) it a hai (its.toArray)
    have ne : its.toArray[i]? = none := by simp; omega
    have hT : s.TypeIs (.ref e) "enumerate" := ⟨_, he, rfl⟩
    unfold pyNext
    refine wpAny_bind (wpAny_attempt (wpAny_callSpecial?_slot (name := Str.ofString "__next__") hT F.slot_enumerate_next (wpAny_call_entry F.slot_enumerate_next hT F.entry_enumerate_next ?_ (F.args_enumerate_next_1 _))))
    change wpAny _ _ (do let q ← field (.ref e) 2; _) _ _ _
    refine wpAny_bind (wpAny_field he rfl (x := .ref it) rfl (wpAny_bind (fz_end_tuple (show X.A.in1.handled = none from I.ok.hd hc) hit p' ne fun h' x xb hx' => ?_)))
    obtain ⟨o, ho, kc⟩ := hx'
    refine wpAny_bind (wpAny_isInstance (T := "StopIteration") (b := true) ⟨o, ho, kc⟩ isSubtype_stop (wpAny_pure ⟨rfl, ?_⟩))
    exact I.turned (t' := s.toks) (fun b o hb q => xb b o hb q) f0 f1 f3 f4 f5
  self := fun A i s Q E st h => let ⟨⟨_, he⟩, _⟩ := st; wpAny_pyIter_enum he h
end Ez
set_option Elab.async false
set_option linter.all false
set_option maxRecDepth 100000
namespace Ez
open L2 PySem PyProof.Rows PySem.Spec
def iEnumQ (K : PySem.W.Frag) (ta : TA) : TI := fun σ H R => ta σ H fun vs H1 => ∃ a, vs = [.ref a] ∧ (((∃ xs, SqL K H1 a xs) ∧ R (Ite K a) H1) ∨ ((∃ xs, SqT K H1 a xs) ∧ R (IteT K a) H1))
theorem pi_enumQ {X : Cx} {e : Expr} {ta : TA} {p pos tpos : Pos} {elts : List Expr} {kk : Nat} (hg : Gl X "enumerate") (hm : X.mg "enumerate" = none) (ha : PA X [e] ta) (hs : starEach [e] X.env = [(false, eval e X.env)] := by rfl) :
    PI X (.Tuple elts kk tpos) (.Call (.Name "enumerate" p) [e] [] pos) (iEnumQ X.K ta) := by
  refine ⟨fun pins s σ H R I h => ?_⟩
  refine Call_ (ld_blt I hg hm boot_enumerate (PyProof.Rows.callWith_type1 (thn (ha.run pos pins s σ H _ I h) fun us s1 ⟨vs, H1, I1, r1, a, ex, q1⟩ => ?_) hs rfl))
  subst ex
  obtain ⟨u, rfl, ru⟩ := vals1 r1
  cases (show u = Value.ref a from ru)
  have two : ∀ b, b ∈ [s1.heap.objs.size + 1, s1.heap.objs.size] → s1.heap.objs.size ≤ b := fun b hb => by
    rcases List.mem_cons.mp hb with z | z
    · omega
    · have := List.mem_singleton.mp z; omega
  rcases q1 with ⟨⟨xs, hq⟩, q⟩ | ⟨⟨xs, hq⟩, q⟩
  · obtain ⟨its, rv, p1, hz⟩ := I1.list hq
    refine call_enumerate_list p1.isList fun h' he hit hsz hk => wpAny_pyIter_enum he ?_
    have I2 : Inv X pins σ H1 { s1 with heap := h' } := I1.kept (t' := s1.toks) hk
    exact ⟨_, [s1.heap.objs.size + 1, s1.heap.objs.size], _, _, H1, rfl, I2, turn_enum a _ s1.heap.objs.size, ⟨⟨.none, he⟩, hit, Nat.succ_ne_self _⟩, fun b hb => I1.fpOk (two b hb) (I1.hok.fresh (two b hb)), q⟩
  · obtain ⟨its, rv, p1, hz⟩ := I1.tuple hq
    have p2 : s1.heap.IsTuple a its.toArray := p1
    have lt : a < s1.heap.objs.size := by obtain ⟨_, z, _⟩ := p2; exact Heap.lt_size z
    refine fz_call_enum p2 fun h' he hit hsz hk => wpAny_pyIter_enum he ?_
    have I2 : Inv X pins σ H1 { s1 with heap := h' } := I1.kept (t' := s1.toks) hk
    exact ⟨_, [s1.heap.objs.size + 1, s1.heap.objs.size], _, _, H1, rfl, I2, turn_enumT a _ s1.heap.objs.size (Nat.ne_of_lt lt) (Nat.ne_of_lt (Nat.lt_succ_of_lt lt)), ⟨⟨.none, he⟩, hit, Nat.succ_ne_self _⟩, fun b hb => I1.fpOk (two b hb) (I1.hok.fresh (two b hb)), q⟩
theorem walk_enumT {K : PySem.W.Frag} {a : Addr} {xs : List V} : Walk (IteT K a) xs.length (fun H => SqT K H a xs) (YPair (fun i => some (.int (i : Nat))) (fun i => xs[i]?)) :=
  ⟨fun i _ hi q => ⟨xs, xs[i], q, List.getElem?_eq_getElem hi⟩, fun _ q => ⟨xs, q, Nat.le_refl _⟩, fun i H v H' _ q ⟨T, x, h1, h2, h3, h4⟩ => ⟨T, .int (i : Nat), x, h1, h2, h3, rfl, h4 xs q⟩⟩
def tBk (K : PySem.W.Frag) (te : TE) : TE := fun σ H Q => te σ H fun x H1 => ∃ a xs, x = .ref a ∧ SqT K H1 a xs ∧ ∀ p, H1 p = none → Q (.ref p) (upd H1 p (.tup (xs.drop 1).reverse))
end Ez
set_option Elab.async false
set_option linter.all false
set_option maxRecDepth 100000
namespace Ez
open L2 PySem PyProof.Rows PySem.Spec
theorem lexI_self : ∀ a : List Int, lexI a a = false
  | [] => rfl
  | x :: a => by
    change (bif decide (x = x) then lexI a a else decide (x < x)) = false
    rw [decide_eq_true rfl]; exact lexI_self a
theorem lexI_app : ∀ {a b : List Int} (c d : List Int), a.length = b.length → lexI (a ++ c) (b ++ d) = if a = b then lexI c d else lexI a b
  | [], [], c, d, _ => by rw [if_pos rfl]; rfl
  | [], _ :: _, _, _, h => by simp at h
  | _ :: _, [], _, _, h => by simp at h
  | x :: a, y :: b, c, d, h => by
    change (bif decide (x = y) then lexI (a ++ c) (b ++ d) else decide (x < y)) = _
    have ih := lexI_app (a := a) (b := b) c d (by simpa using h)
    by_cases e : x = y
    · subst e
      rw [decide_eq_true rfl, cond_true, ih]
      by_cases f : a = b
      · subst f; rw [if_pos rfl, if_pos rfl]
      · rw [if_neg f, if_neg (fun q => f (List.cons.inj q).2)]
        change _ = (bif decide (x = x) then lexI a b else decide (x < x))
        rw [decide_eq_true rfl]; rfl
    · rw [decide_eq_false e, cond_false, if_neg (fun q => e (List.cons.inj q).1)]
      change _ = (bif decide (x = y) then lexI a b else decide (x < y))
      rw [decide_eq_false e]; rfl
mutual
theorem like_len : ∀ {x y : D}, D.like x y = true → x.flat.length = y.flat.length
  | .int _, .int _, _ => rfl
  | .tup a, .tup b, h => likeL_len (x := a) (y := b) h
  | .lst a, .lst b, h => likeL_len (x := a) (y := b) h
theorem likeL_len : ∀ {x y : List D}, D.likeL x y = true → (D.flatL x).length = (D.flatL y).length
  | [], [], _ => rfl
  | a :: r, b :: s, h => by
    obtain ⟨h1, h2⟩ := Bool.and_eq_true_iff.mp (show (D.like a b && D.likeL r s) = true from h)
    change (D.flat a ++ D.flatL r).length = (D.flat b ++ D.flatL s).length
    rw [List.length_append, List.length_append, like_len h1, likeL_len h2]
end
mutual
theorem like_alike : ∀ {x y : D}, D.like x y = true → PySem.W.alike x.py y.py = true
  | .int _, .int _, _ => rfl
  | .tup a, .tup b, h => by
    change PySem.W.alike (.tuple (D.pyL a)) (.tuple (D.pyL b)) = true
    rw [PySem.W.alike]; exact likeL_alike (x := a) (y := b) h
  | .lst a, .lst b, h => by
    change PySem.W.alike (.list (D.pyL a)) (.list (D.pyL b)) = true
    rw [PySem.W.alike]; exact likeL_alike (x := a) (y := b) h
theorem likeL_alike : ∀ {x y : List D}, D.likeL x y = true → PySem.W.alikeAll (D.pyL x) (D.pyL y) = true
  | [], [], _ => rfl
  | a :: r, b :: s, h => by
    obtain ⟨h1, h2⟩ := Bool.and_eq_true_iff.mp (show (D.like a b && D.likeL r s) = true from h)
    change PySem.W.alikeAll (a.py :: D.pyL r) (b.py :: D.pyL s) = true
    rw [PySem.W.alikeAll, like_alike h1, likeL_alike h2]; rfl
end
mutual
theorem like_inj : ∀ {x y : D}, D.like x y = true → x.py = y.py → x = y
  | .int a, .int b, _, e => by cases (show PyData.int a = PyData.int b from e); rfl
  | .tup a, .tup b, h, e => by rw [likeL_inj (x := a) (y := b) h (PyData.tuple.inj (show PyData.tuple (D.pyL a) = .tuple (D.pyL b) from e))]
  | .lst a, .lst b, h, e => by rw [likeL_inj (x := a) (y := b) h (PyData.list.inj (show PyData.list (D.pyL a) = .list (D.pyL b) from e))]
theorem likeL_inj : ∀ {x y : List D}, D.likeL x y = true → D.pyL x = D.pyL y → x = y
  | [], [], _, _ => rfl
  | a :: r, b :: s, h, e => by
    obtain ⟨h1, h2⟩ := Bool.and_eq_true_iff.mp (show (D.like a b && D.likeL r s) = true from h)
    obtain ⟨e1, e2⟩ := List.cons.inj (show a.py :: D.pyL r = b.py :: D.pyL s from e)
    rw [like_inj h1 e1, likeL_inj h2 e2]
end
mutual
theorem like_ok : ∀ {x y : D}, D.like x y = true → D.pur y = true ∧ D.dep y = D.dep x ∧ y.py ≠ .none ∧ D.like y y = true
  | .int _, .int _, _ => ⟨rfl, rfl, (fun z => nomatch z), rfl⟩
  | .tup a, .tup b, h => by
    obtain ⟨h1, h2, h3⟩ := likeL_ok (x := a) (y := b) h
    exact ⟨h1, congrArg (· + 1) h2, (fun z => nomatch (show PyData.tuple _ = _ from z)), h3⟩
  | .lst a, .lst b, h => by
    obtain ⟨h1, h2, h3⟩ := likeL_ok (x := a) (y := b) h
    exact ⟨h1, congrArg (· + 1) h2, (fun z => nomatch (show PyData.list _ = _ from z)), h3⟩
theorem likeL_ok : ∀ {x y : List D}, D.likeL x y = true → D.purL y = true ∧ D.depL y = D.depL x ∧ D.likeL y y = true
  | [], [], _ => ⟨rfl, rfl, rfl⟩
  | a :: r, b :: s, h => by
    obtain ⟨h1, h2⟩ := Bool.and_eq_true_iff.mp (show (D.like a b && D.likeL r s) = true from h)
    obtain ⟨a1, a2, _, a3⟩ := like_ok h1
    obtain ⟨b1, b2, b3⟩ := likeL_ok h2
    exact ⟨Bool.and_eq_true_iff.mpr ⟨a1, b1⟩, by change max (D.dep b) (D.depL s) = max (D.dep a) (D.depL r); rw [a2, b2], Bool.and_eq_true_iff.mpr ⟨a3, b3⟩⟩
end
mutual
theorem like_trans : ∀ {x y z : D}, D.like x y = true → D.like x z = true → D.like y z = true
  | .int _, .int _, .int _, _, _ => rfl
  | .tup a, .tup b, .tup c, h, k => likeL_trans (x := a) (y := b) (z := c) h k
  | .lst a, .lst b, .lst c, h, k => likeL_trans (x := a) (y := b) (z := c) h k
theorem likeL_trans : ∀ {x y z : List D}, D.likeL x y = true → D.likeL x z = true → D.likeL y z = true
  | [], [], [], _, _ => rfl
  | a :: r, b :: s, c :: t, h, k => by
    obtain ⟨h1, h2⟩ := Bool.and_eq_true_iff.mp (show (D.like a b && D.likeL r s) = true from h)
    obtain ⟨k1, k2⟩ := Bool.and_eq_true_iff.mp (show (D.like a c && D.likeL r t) = true from k)
    exact Bool.and_eq_true_iff.mpr ⟨like_trans h1 k1, likeL_trans h2 k2⟩
end
abbrev Tk := List (Int ⊕ List Nat)
abbrev lt' (l m : Tk) : Bool := PyProof.Rows.lexLt PyProof.Rows.itemOrd l m
theorem lt_int (a b : Int) (l m : Tk) : lt' (.inl a :: l) (.inl b :: m) = if a = b then lt' l m else decide (a < b) := by
  by_cases e : a = b
  · subst e; rw [if_pos rfl]; exact lex_self (O := PyProof.Rows.itemOrd) _ _ _
  · rw [if_neg e]
    exact (PySem.W.lex_atom (fun q => e (Sum.inl.inj q)) l m).trans (PySem.W.lex_one _ _)
mutual
theorem toks_like : ∀ {x y : D}, D.like x y = true → ∀ l m : Tk, lt' (PySem.W.keyToks x.py ++ l) (PySem.W.keyToks y.py ++ m) = if x.flat = y.flat then lt' l m else lexI x.flat y.flat
  | .int a, .int b, _, l, m => by
    change lt' (.inl a :: l) (.inl b :: m) = if [a] = [b] then lt' l m else lexI [a] [b]
    rw [lt_int]
    by_cases e : a = b
    · subst e; rw [if_pos rfl, if_pos rfl]
    · rw [if_neg e, if_neg (fun q => e (List.cons.inj q).1)]
      change _ = (bif decide (a = b) then lexI [] [] else decide (a < b))
      rw [decide_eq_false e]; rfl
  | .tup a, .tup b, h, l, m => by
    have z := toksL_like (x := a) (y := b) h l m
    change lt' (PySem.W.keyToks (.tuple (D.pyL a)) ++ l) (PySem.W.keyToks (.tuple (D.pyL b)) ++ m) = _
    rw [PySem.W.keyToks, PySem.W.keyToks]; exact z
  | .lst a, .lst b, h, l, m => by
    have z := toksL_like (x := a) (y := b) h l m
    change lt' (PySem.W.keyToks (.list (D.pyL a)) ++ l) (PySem.W.keyToks (.list (D.pyL b)) ++ m) = _
    rw [PySem.W.keyToks, PySem.W.keyToks]; exact z
theorem toksL_like : ∀ {x y : List D}, D.likeL x y = true → ∀ l m : Tk, lt' (PySem.W.keyToksAll (D.pyL x) ++ l) (PySem.W.keyToksAll (D.pyL y) ++ m) = if D.flatL x = D.flatL y then lt' l m else lexI (D.flatL x) (D.flatL y)
  | [], [], _, l, m => by
    change lt' (.inl 0 :: l) (.inl 0 :: m) = if ([] : List Int) = [] then lt' l m else _
    rw [lt_int, if_pos rfl, if_pos rfl]
  | a :: r, b :: s, h, l, m => by
    obtain ⟨h1, h2⟩ := Bool.and_eq_true_iff.mp (show (D.like a b && D.likeL r s) = true from h)
    change lt' (PySem.W.keyToksAll (a.py :: D.pyL r) ++ l) (PySem.W.keyToksAll (b.py :: D.pyL s) ++ m) = if D.flat a ++ D.flatL r = D.flat b ++ D.flatL s then lt' l m else lexI (D.flat a ++ D.flatL r) (D.flat b ++ D.flatL s)
    rw [PySem.W.keyToksAll, PySem.W.keyToksAll, List.cons_append, List.cons_append, lt_int, if_pos rfl, List.append_assoc, List.append_assoc, toks_like h1, toksL_like h2, lexI_app _ _ (like_len h1)]
    by_cases e : D.flat a = D.flat b
    · rw [if_pos e, if_pos e, e]
      by_cases f : D.flatL r = D.flatL s
      · rw [if_pos f, if_pos (by rw [f])]
      · rw [if_neg f, if_neg (fun q => f (List.append_cancel_left q))]
    · rw [if_neg e, if_neg e, if_neg (fun q => e (List.append_inj_left q (like_len h1)))]
end
theorem dataLt_like {x y : D} (h : D.like x y = true) : PySem.W.dataLt x.py y.py = lexI x.flat y.flat := by
  have z := toks_like h [] []
  rw [List.append_nil, List.append_nil] at z
  refine z.trans ?_
  by_cases e : x.flat = y.flat
  · rw [if_pos e, e, lexI_self]; rfl
  · rw [if_neg e]
theorem minDD_spec : ∀ (r : List D) (x : D), (∀ y ∈ r, D.like x y = true) → D.like x x = true → (minDD x r).py = PySem.W.minD x.py (D.pyL r) ∧ D.like x (minDD x r) = true ∧ minDD x r ∈ x :: r
  | [], x, _, hx => ⟨rfl, hx, List.mem_cons_self⟩
  | y :: r, x, h, hx => by
    have hy := h y List.mem_cons_self
    have e1 : PySem.W.dataLt y.py x.py = lexI y.flat x.flat := dataLt_like (like_trans hy hx)
    have e2 : minDD x (y :: r) = minDD (bif lexI y.flat x.flat then y else x) r := rfl
    have e3 : PySem.W.minD x.py (D.pyL (y :: r)) = PySem.W.minD (if lexI y.flat x.flat = true then y.py else x.py) (D.pyL r) := by
      rw [← e1]; rfl
    rw [e2, e3]
    cases q : lexI y.flat x.flat
    · rw [cond_false, if_neg (by decide)]
      obtain ⟨a, b, c⟩ := minDD_spec r x (fun z hz => h z (List.mem_cons_of_mem _ hz)) hx
      refine ⟨a, b, ?_⟩
      rcases List.mem_cons.mp c with c | c
      · rw [c]; exact List.mem_cons_self
      · exact List.mem_cons_of_mem _ (List.mem_cons_of_mem _ c)
    · rw [cond_true, if_pos rfl]
      obtain ⟨a, b, c⟩ := minDD_spec r y (fun z hz => like_trans hy (h z (List.mem_cons_of_mem _ hz))) (like_ok hy).2.2.2
      exact ⟨a, like_trans (like_trans hy hx) b, List.mem_cons_of_mem _ c⟩
theorem pyL_get : ∀ (l : List D) (i : Nat), (D.pyL l)[i]? = l[i]?.map D.py
  | [], _ => rfl
  | _ :: _, 0 => rfl
  | _ :: l, i + 1 => pyL_get l i
theorem mem_pyL {l : List D} {d : PyData} (h : d ∈ D.pyL l) : ∃ x ∈ l, d = x.py := by
  obtain ⟨i, hi⟩ := List.getElem?_of_mem h
  rw [pyL_get] at hi
  obtain ⟨x, hx, e⟩ := Option.map_eq_some_iff.mp hi
  exact ⟨x, List.mem_of_getElem? hx, e.symm⟩
/-- min(xs), the items told by data that are alike: one of the least -/
def rMinA (K : PySem.W.Frag) : List V → Hp → VK → Prop := fun vs H Q => ∃ (a : Addr) (xs : List V) (x : PyData) (ds : List PyData), vs = [.ref a] ∧ (SqL K H a xs ∨ SqT K H a xs) ∧ DpAll K H xs (x :: ds) ∧ PySem.W.AlikeAll (x :: ds) ∧ PyData.depthAll (x :: ds) ≤ 61 ∧
  ∀ (i : Nat) m, xs[i]? = some m → (x :: ds)[i]? = some (PySem.W.minD x ds) → Q m H
end Ez
set_option Elab.async false
set_option linter.all false
set_option maxRecDepth 100000
namespace Ez
open L2 PySem PyProof.Rows PySem.Spec
section
variable {prog : Program} {w : World} {A : Around} {E : Value → Shared → Prop} {s : Shared}
theorem mn_two {a b : Value} {x y : PyData} {as bs : List Addr} {Q : Value → Shared → Prop} (hh : A.handled = none) (ra : Reads s.heap a x as) (rb : Reads s.heap b y bs) (al : PySem.W.AlikeAll [x, y]) (hu : A.units + 1 + PyData.depthAll [x, y] < cLine)
    (h : ∀ h' tk, (∀ c o, s.heap.get? c = some o → h'.get? c = some o) → Q (if PySem.W.dataLt y x = true then b else a) { s with heap := h', toks := tk }) : wpAny (model prog w) A (call (.builtin "min") [a, b]) Q E s := by
  have nm : (toString "min" ++ toString ".loop" : String) = "min.loop" := by decide
  have up : ∀ c o, s.heap.get? c = some o → (s.heap.push { cls := .type "tuple", data := .seq #[a, b] }).get? c = some o := fun c o e => Heap.get?_push_of_some _ e
  have tp : (s.heap.push { cls := .type "tuple", data := .seq #[a, b] }).IsTuple s.heap.objs.size #[a, b] := ⟨_, Heap.get?_push_size _ rfl, rfl, 0, rfl⟩
  have rd : ReadsAll (s.heap.push { cls := .type "tuple", data := .seq #[a, b] }) (#[a, b] : Array Value).toList [x, y] (as ++ (bs ++ [])) := .cons (PySem.W.reads_keeps up ra) (.cons (PySem.W.reads_keeps up rb) .nil)
  refine call_function_tree F.kind_min F.plain_min F.entry_min (F.args_min2 _ _) ?_
  change wpAny _ A.in1 (do let q ← Builtin.Builtins.bindParams "min" ["key", "default"] 0 ⟨[], []⟩; _) _ _ s
  refine wpAny_bind (wpAny_of_eq (show Builtin.Builtins.bindParams "min" ["key", "default"] 0 ⟨[], []⟩ = pure [none, none] from rfl) ?_)
  change wpAny _ A.in1 (do let q ← newTuple [a, b]; _) _ _ s
  refine wpAny_bind (wpAny_newObj_type (wpAny_bind ?_))
  refine PySem.W.iter_tupleW (A := A.in1) (s := { s with heap := s.heap.push { cls := .type "tuple", data := .seq #[a, b] } }) hh tp fun s₂ e W st hf hw hk => ?_
  refine wpAny_bind (wpAny_newObj_type ?_)
  have hS : s₂.heap.objs.size ∉ _ := fun hm => Nat.lt_irrefl _ (hf _ hm)
  rw [nm]
  refine wpAny_pure ⟨plainId_quiet F.plain_min_loop _, codeAny_min_loop_firstH W (s.heap.push { cls := .type "tuple", data := .seq #[a, b] }) hw _ (PySem.W.cmpIn_lt (A := A.in1) (s := { s with heap := s.heap.push { cls := .type "tuple", data := .seq #[a, b] } }) rd al hu) s₂.heap.objs.size hS (fresh_in hk) _ (show 0 < 2 by decide)
    (fun b o e => Heap.get?_push_of_some _ (hk b o e)) (W.frame 0 s₂ _ s₂.toks st (Nat.le_refl _) fun b _ o e => Heap.get?_push_of_some _ e) (Heap.get?_push_size _ rfl) fun v s' hP hm => ?_⟩
  obtain ⟨h', tk, rfl, kk⟩ := PySem.W.moved_old e rfl (Moved.drop_new (tk := s₂.toks) hm (Nat.le_refl _))
  have hv : v = if PySem.W.dataLt y x = true then b else a := by
    have hP' : (#[a, b] : Array Value)[argBest (fun i j => PySem.W.dataLt ([x, y].getD i .none) ([x, y].getD j .none)) 1]? = some v := hP
    have e1 : argBest (fun i j => PySem.W.dataLt ([x, y].getD i .none) ([x, y].getD j .none)) 1 = if PySem.W.dataLt y x = true then 1 else 0 := rfl
    rw [e1] at hP'
    by_cases q : PySem.W.dataLt y x = true
    · rw [if_pos q] at hP' ⊢; exact (Option.some.inj hP').symm
    · rw [if_neg q] at hP' ⊢; exact (Option.some.inj hP').symm
  rw [hv]
  exact h h' tk fun c o e => kk c o (up c o e)
end
/-- min(x, y), two data that are alike -/
def rMin2A (K : PySem.W.Frag) : List V → Hp → VK → Prop := fun vs H Q => ∃ (v u : V) (x y : PyData), vs = [v, u] ∧ L2.Dp K H v x ∧ L2.Dp K H u y ∧ PySem.W.AlikeAll [x, y] ∧ PyData.depthAll [x, y] ≤ 61 ∧ Q (if PySem.W.dataLt y x = true then u else v) H
theorem cr_min2A {X : Cx} (hc : X.calm = true) (hu : X.A.units + 64 < cLine) : CallR X (.builtin "min") (rMin2A X.K) := by
  intro pins s σ H vs us Q I r h
  obtain ⟨v, u, x, y, rfl, dx, dy, ha, hz, q⟩ := h
  obtain ⟨v', u', rfl, rv, ru⟩ := vals2 r
  obtain ⟨as, r1⟩ := L2.Dp.reads I x v v' dx rv
  obtain ⟨bs, r2⟩ := L2.Dp.reads I y u u' dy ru
  refine mn_two (I.ok.hd hc) r1 r2 ha (by omega) fun h' tk hk => ?_
  refine ⟨if PySem.W.dataLt y x = true then u else v, H, I.kept hk, ?_, q⟩
  split
  · exact ru
  · exact rv
end Ez
set_option Elab.async false
set_option linter.all false
set_option maxRecDepth 100000
namespace Ez
open PySem L2 PyProof.Rows PySem.Spec
theorem tuple_mul1 (l : Addr) (items : Array Value) (n : Nat) (dd : Option Addr) (sl : Array (Option Value)) (u : Tok) :
   Meets (Builtin.«tuple.__mul__» { pos := [Value.ref l, Value.int 1 u] }) fun _ R s =>
     s.heap.get? l = some { cls := Value.type "tuple", dict := dd, data := Data.seq items n, slots := sl } ∧ R (Except.ok (Flow.ret (Value.ref l))) s :=
  Meets.of_wp fun prog w A R s h => by
    obtain ⟨hl, h⟩ := h
    have f1 := AutoSeq1.idx_int
    refine PySem.wpAny_bind ?_
    refine PySem.wpAny_bind (PySem.wpAny_pure (PySem.wpAny_pure ?_))
    refine PySem.wpAny_bind (PySem.wpAny_bind (PySem.wpAny_bind (wpAny_load' hl (PySem.wpAny_pure (PySem.wpAny_pure ?_)))))
    have e : (items.isEmpty || (1 : Int) == 1) = true := by simp
    simp only [e, if_true]
    refine PySem.wpAny_bind ?_
    have ty : s.TypeIs (.ref l) "tuple" := ⟨_, hl, rfl⟩
    repeat wp_step
    exact ⟨_, rfl, h⟩
def rRep1 (K : PySem.W.Frag) : R2 := fun x y H Q => ∃ l xs, x = .ref l ∧ y = .int 1 ∧ SqT K H l xs ∧ Q (.ref l) H
theorem op_rep1 {X : Cx} : OpR X (binaryOp .Mult) (rRep1 X.K) := by
  intro pins s σ H x y v u Q I rx ry h
  obtain ⟨l, xs, rfl, rfl, hT, q⟩ := h
  cases rx
  obtain ⟨t, rfl⟩ := ry
  obtain ⟨its, r, p, hs⟩ := I.tuple hT
  obtain ⟨⟨cls, dd, data, sl⟩, ho, hc, n, hd⟩ := p
  cases hc
  cases hd
  exact wpAny_binaryOp_repeat_ref (by decide) ⟨_, ho, rfl⟩ (fun s' => typeIs_int s' 1 t) noFill_tuple_mul F.fills_int_mul F.slot_int_rmul repeat_tuple F.slot_int_index.lookup
    (call_meets F.slot_int_rmul (typeIs_int s 1 t) F.entry_int_rmul (F.args_int_rmul_2 _ _) (int_rmul_tuple 1 t l its.toArray n dd sl)
      ⟨ho, rfl, ⟨_, ho, rfl⟩, call_meets F.slot_tuple_mul ⟨_, ho, rfl⟩ F.entry_tuple_mul (F.args_tuple_mul_2 _ _) (tuple_mul1 l its.toArray n dd sl t) ⟨ho, .ref l, H, I, rfl, q⟩⟩)
end Ez
set_option Elab.async false
set_option linter.all false
set_option maxRecDepth 100000
namespace Ez
open L2 PySem PyProof.Rows PySem.Spec
def rOr (r r' : R2) : R2 := fun x y H Q => r x y H Q ∨ r' x y H Q
theorem opOr {X : Cx} {f : Value → Value → Sem Value} {r r' : R2} (h : OpR X f r) (h' : OpR X f r') : OpR X f (rOr r r') := fun pins s σ H x y v u Q I a b c => c.elim (h pins s σ H x y v u Q I a b) (h' pins s σ H x y v u Q I a b)
def rInT (K : PySem.W.Frag) : R2 := fun x y H Q => ∃ d ds, Dp K H x d ∧ Dp K H y (.tuple ds) ∧ SeqAt.shaped d = true ∧ SeqAt.shaped (.tuple ds) = true ∧ Q (.bl (ds.any fun z => PyData.eqv z d)) H
def rNotInT (K : PySem.W.Frag) : R2 := fun x y H Q => ∃ d ds, Dp K H x d ∧ Dp K H y (.tuple ds) ∧ SeqAt.shaped d = true ∧ SeqAt.shaped (.tuple ds) = true ∧ Q (.bl (!ds.any fun z => PyData.eqv z d)) H
section
variable {X : Cx}
theorem op_inT (hu : X.A.units + 65 < cLine) : OpR X (compareOp .In) (rInT X.K) := by
  intro pins s σ H x y v u Q I rx ry h
  obtain ⟨d, ds, hd, he, sd, se, q⟩ := h
  obtain ⟨as, r1⟩ := Dp.reads I d x v hd rx
  obtain ⟨bs, r2⟩ := Dp.reads I (.tuple ds) y u he ry
  exact SeqAt.in_tuple_reads r2 r1 (SeqAt.canLay_of_shaped se) (SeqAt.canLay_of_shaped sd) (room_in_shaped sd hu) ⟨.bl _, H, I, rfl, q⟩
theorem op_notInT (hu : X.A.units + 65 < cLine) : OpR X (compareOp .NotIn) (rNotInT X.K) := by
  intro pins s σ H x y v u Q I rx ry h
  obtain ⟨d, ds, hd, he, sd, se, q⟩ := h
  obtain ⟨as, r1⟩ := Dp.reads I d x v hd rx
  obtain ⟨bs, r2⟩ := Dp.reads I (.tuple ds) y u he ry
  exact SeqAt.notIn_tuple_reads r2 r1 (SeqAt.canLay_of_shaped se) (SeqAt.canLay_of_shaped sd) (room_in_shaped sd hu) ⟨.bl _, H, I, rfl, q⟩
/-- + of ints, lists, tuples -/
def rAdd (K : PySem.W.Frag) : R2 := rOr (rI0 fun i j => .int (i + j)) (rOr rCat (rCatA K))
theorem op_addA : OpR X (binaryOp .Add) (rAdd X.K) := opOr op_add (opOr op_cat op_catA)
def rMul (K : PySem.W.Frag) : R2 := rOr (rI CMulW fun i j => .int (i * j)) (rOr rRep (rOr (rRepT K) (rRep1 K)))
theorem op_mulA : OpR X (binaryOp .Mult) (rMul X.K) := opOr op_mulW (opOr op_rep (opOr op_repT op_rep1))
theorem op_inA (hu : X.A.units + 65 < cLine) : OpR X (compareOp .In) (rOr (rInD X.K) (rInT X.K)) := opOr (op_inD hu) (op_inT hu)
theorem op_notInA (hu : X.A.units + 65 < cLine) : OpR X (compareOp .NotIn) (rOr (rNotInD X.K) (rNotInT X.K)) := opOr (op_notInD hu) (op_notInT hu)
/-- what stands still is walked: a list, a tuple -/
def iSeq (K : PySem.W.Frag) (tl : TE) : TI := fun σ H R => tl σ H fun x H1 => ∃ a, x = .ref a ∧ (((∃ xs, SqL K H1 a xs) ∧ R (Itl K a) H1) ∨ ((∃ xs, SqT K H1 a xs) ∧ R (Itt K a) H1))
theorem pi_seq {tg l : Expr} {tl : TE} (hl : PE X l tl) : PI X tg l (iSeq X.K tl) := by
  refine ⟨fun pins s σ H R I h => ?_⟩
  refine thn (hl.run pins s σ H _ I h) fun v s1 ⟨x, H1, I1, r1, q1⟩ => ?_
  obtain ⟨a, e, q1⟩ := q1
  subst e
  cases r1
  rcases q1 with ⟨⟨xs, hq⟩, q⟩ | ⟨⟨xs, hq⟩, q⟩
  · obtain ⟨its, rv, p, hz⟩ := I1.list hq
    refine wpAny_pyIter_list p.isList ?_
    refine ⟨s1.heap.objs.size, [s1.heap.objs.size], _, _, H1, rfl, I1.kept (t' := s1.toks) fun b o e => Heap.get?_push_of_some _ e, turn_list a _, ⟨_, Heap.get?_push_size _ rfl, rfl, rfl⟩, fun b hb => ?_, q⟩
    have e : b = s1.heap.objs.size := by simpa using hb
    subst e
    exact I1.fpOk (Nat.le_refl _) (I1.hok.fresh (Nat.le_refl _))
  · obtain ⟨its, rv, p, hz⟩ := I1.tuple hq
    refine wpAny_pyIter_tuple (show s1.heap.IsTuple a its.toArray from p) ?_
    refine ⟨s1.heap.objs.size, [s1.heap.objs.size], _, _, H1, rfl, I1.kept (t' := s1.toks) fun b o e => Heap.get?_push_of_some _ e, turn_tuple a _, ⟨_, Heap.get?_push_size _ rfl, rfl, rfl⟩, fun b hb => ?_, q⟩
    have e : b = s1.heap.objs.size := by simpa using hb
    subst e
    exact I1.fpOk (Nat.le_refl _) (I1.hok.fresh (Nat.le_refl _))
/-- a, b, .. = a tuple or a list of that length -/
def gSeq (K : PySem.W.Frag) (n : Nat) (t : TGs) : TG := fun v σ H Q => gTup K n t v σ H Q ∨ gLst K n t v σ H Q
theorem pg_seq {es : List Expr} {k : Nat} {t : TGs} {n : Nat} {pos : Pos} (hc : X.calm = true) (h : PGs X es t)
    (hn : (assignEach es X.env).length = n := by rfl) (hst : (assignEach es X.env).findIdx? (·.1) = none := by rfl) : PG X (.Tuple es k pos) (gSeq X.K n t) :=
  ⟨fun pins s σ H v u Q I r hw => hw.elim ((pg_tup hc h hn hst).run pins s σ H v u Q I r) ((pg_lst hc h hn hst).run pins s σ H v u Q I r)⟩
def rSlQ (K : PySem.W.Frag) : V → Option Int → Option Int → Hp → VK → Prop := fun x lo hi H Q => rSlL K x lo hi H Q ∨ rSlA K x lo hi H Q
theorem sl_seq : SlR X (rSlQ X.K) := sl_list.or sl_tupA
end
section
variable {P : Program} {w : World} {K : PySem.W.Frag} {mg : Str → Option Value} {base : Heap} {sp : Sp} {ps : List Str} {k : Nat}
theorem fnG_ofD {x qual : Str} {params : Arguments} {body : List Stmt} {scope : Scope} {dvs : List V} {kws : List (Str × V)} {f : Addr} {fd : FuncData} {N : List Str} (F : FunD K x qual params body scope dvs kws f fd) (S : FnScope N ps scope) (len : ∀ vs H Q E, sp vs H Q E → vs.length = ps.length)
    (bodyR : ∀ (cdv : Value) (A : Around) (outer : List Env) (s : Shared) (H : Hp) (vs : List V) (Q : VK) (E : XK), A.guards = some [] → Room k (A.deeper (envOfC qual scope s.heap.objs.size f cdv)) → sp vs H Q E →
      ∃ t, PSs (cxOf (L2N.CX P w) P w K mg base N qual scope f cdv A outer s H E) body t ∧ t ⟨fun _ h => Q .non h, Q, fun _ _ => False, fun _ _ => False⟩ (start N vs) H) : FnG P w K mg base (k + 1) f fd ps sp := by
  refine ⟨len, ?_⟩
  intro A outer s H args us vs Q E room gs env bound rel h
  obtain ⟨oc, od, dflt, kV, doc, pm, an, cdv, ct, sl, eq, look, code, rest⟩ := F.ex
  subst eq
  have up : ∀ b o, base.get? b = some o → s.heap.get? b = some o := fun b o e => (env.bs b o e).1
  have kin := env.mod.kin.keeps up
  refine codeAny_call_function room.depth (kin _ _ look) rfl S.co S.gen rfl (PySem.W.codeRec_of kin code) (bound _ _ _ _ ?_)
  refine wpAny_newFunctionEnv_cells S.kind (fun y hy => ?_) ?_
  · rcases S.par y.1 (List.of_mem_zip (a := y.1) (b := y.2) hy).1 with z | z
    · exact Or.inl z
    · exact Or.inr ⟨z, PySem.W.cellsFrom_some _ _ _ (Or.inl z)⟩
  · intro env1 e1 s1 ic
    subst e1
    refine ⟨(env.mod.nolimit.keeps up).keeps ic.toInCall.keep, codeAny_func ?_⟩
    obtain ⟨t, d, p⟩ := bodyR cdv A outer s H vs Q E gs (room.deeper _) h
    refine wpAny_mono (d.run [] s1 (start N vs) H _ (inv_start S room.hd env (len vs H Q E h) rel ic) p) ?_ fun _ _ z => z
    intro fl s2 z
    match fl, z with
    | .ret u, ⟨v, σ2, H2, J, rv, q⟩ => exact ⟨v, H2, J.os, J.bare, J.base, J.hok, rv, q⟩
    | .next, ⟨σ2, H2, J, q⟩ => exact ⟨V.non, H2, J.os, J.bare, J.base, J.hok, rfl, q⟩
    | .brk, ⟨_, _, _, q⟩ => exact q.elim
    | .cont, ⟨_, _, _, q⟩ => exact q.elim
end
section
variable {X : Cx} {k : Nat} {f : Addr} {fd : FuncData} {ps : List Str} {sp : Sp} {dvs : List V} {ds : List Value} {x : Str} {p pos : Pos} {e : Expr} {es : List Expr} {ta : TA}
theorem run_G {E : XK} {pins : List (Addr × Obj)} {σ : L2.St} {H : Hp} {s : Shared} {Q : VK} {us : List Value} {vs : List V} (F : FnG X.prog X.w X.K X.mg X.base k f fd ps sp) (hr : Room k X.A) (gs : X.A.guards = some []) (hb : Binds X.K fd ps ds) (hd : Vals dvs ds) (hx : PassesAt (L2N.CX X.prog X.w) X σ E)
    (I : Inv X pins σ H s) (r : Vals vs us) (q : sp (vs ++ dvs) H Q E) : wpAny (model X.prog X.w) X.A (PySem.call (.ref f) us) (EP X pins σ Q) X.xe s := by
  refine wpAny_call (codeAny_mono (F.go X.A X.stack s H ⟨us, []⟩ (us ++ ds) (vs ++ dvs) Q E hr gs I.env0 (hb s us I.kIn ?_) (r.append hd) q) ?_)
  · rw [← (r.append hd).length]; exact F.size _ _ _ _ q
  · intro res s2 z
    match res, z with
    | .error u, z => exact hx pins H s u s2 I z
    | .ok (.ret u), z => exact I.after z
    | .ok .next, z => exact z.elim
    | .ok .brk, z => exact z.elim
    | .ok .cont, z => exact z.elim
/-- a call of a def by its name, what is raised is wished for at the caller's slots -/
theorem pe_callGS {E : L2.St → XK} (F : FnG X.prog X.w X.K X.mg X.base k f fd ps sp) (hr : Room k X.A) (gs : X.A.guards = some []) (hg : Gl X x) (hm : X.mg x = some (.ref f)) (hk : PySem.W.keepIn X.K (.ref f) = true) (hb : Binds X.K fd ps ds) (hd : Vals dvs ds) (hx : ∀ σ, PassesAt (L2N.CX X.prog X.w) X σ (E σ))
    (ha : PA X (e :: es) ta) (hdb : (x == ("__debug__" : Str)) = false := by decide) (he : starEach (e :: es) X.env = (false, eval e X.env) :: starEach es X.env := by rfl) (hpl : (backTo pos (starEach es X.env)).any (·.1) = false := by rfl) :
    PE X (.Call (.Name x p) (e :: es) [] pos) (tCallSD sp dvs E ta) := by
  constructor
  intro pins s σ H Q I h
  refine wpAny_Call_Name_kw (ld_glob I hg (pos := p) hm ?_ hdb)
  refine PySem.W.callWith_K (h₀ := X.base) I.ok.mod.kin hk (thn (ha.run pos pins s σ H _ I h) ?_) he hpl
  rintro us s1 ⟨vs, H1, J, r, q⟩
  exact ⟨J.kIn, run_G F hr gs hb hd (hx σ) J r q⟩
theorem pe_callGS0 {E : L2.St → XK} (F : FnG X.prog X.w X.K X.mg X.base k f fd ps sp) (hr : Room k X.A) (gs : X.A.guards = some []) (hg : Gl X x) (hm : X.mg x = some (.ref f)) (hk : PySem.W.keepIn X.K (.ref f) = true) (hb : Binds X.K fd ps ds) (hd : Vals dvs ds) (hx : ∀ σ, PassesAt (L2N.CX X.prog X.w) X σ (E σ))
    (hdb : (x == ("__debug__" : Str)) = false := by decide) : PE X (.Call (.Name x p) [] [] pos) (tCallSD sp dvs E tNil) := by
  constructor
  intro pins s σ H Q I h
  refine wpAny_Call_Name_kw (ld_glob I hg (pos := p) hm ?_ hdb)
  exact PySem.W.callWith_K0 I.kIn hk (run_G (us := []) F hr gs hb hd (hx σ) I .nil h)
/-- a local name that holds one of several defs -/
def tCallV (fn : Nat → Addr) (ok : Nat → Bool) (spf : Nat → Sp) (i : Nat) (E : L2.St → XK) (t : TA) : TE := fun σ H Q => ∃ f, ok f = true ∧ σ[i]? = some (some (.ref (fn f))) ∧ t σ H fun vs H1 => spf f vs H1 Q (E σ)
theorem pe_callV {fn : Nat → Addr} {ok : Nat → Bool} {spf : Nat → Sp} {i : Nat} {E : L2.St → XK} (A : ∀ f, ok f = true → ∃ (fd : FuncData) (ps : List Str), FnG X.prog X.w X.K X.mg X.base k (fn f) fd ps (spf f) ∧ PySem.W.keepIn X.K (.ref (fn f)) = true ∧ Binds X.K fd ps []) (hr : Room k X.A) (gs : X.A.guards = some []) (hN : X.N[i]? = some x) (hv : Vis X.env.scope x)
    (hx : ∀ σ, PassesAt (L2N.CX X.prog X.w) X σ (E σ)) (ha : PA X (e :: es) ta)
    (hdb : (x == ("__debug__" : Str)) = false := by decide) (hcd : (x == ("__classdict__" : Str)) = false := by decide)
    (he : starEach (e :: es) X.env = (false, eval e X.env) :: starEach es X.env := by rfl) (hpl : (backTo pos (starEach es X.env)).any (·.1) = false := by rfl) : PE X (.Call (.Name x p) (e :: es) [] pos) (tCallV fn ok spf i E ta) := by
  refine ⟨fun pins s σ H Q I h => ?_⟩
  obtain ⟨f, ho, hs, ht⟩ := h
  obtain ⟨fd, ps, F, hk, hB⟩ := A f ho
  refine wpAny_Call_Name_kw (thn ((pe_var (pos := p) hN hv hdb hcd).run pins s σ H (fun v H1 => v = .ref (fn f) ∧ H1 = H) I ⟨.ref (fn f), hs, rfl, rfl⟩) fun u s1 ⟨v, H1, I1, r1, q1⟩ => ?_)
  obtain ⟨rfl, rfl⟩ := q1
  cases r1
  refine PySem.W.callWith_K (h₀ := X.base) I.ok.mod.kin hk (thn (ha.run pos pins s1 σ _ _ I1 ht) fun us s2 ⟨vs, H2, I2, r, q⟩ => ⟨I2.kIn, ?_⟩) he hpl
  have q2 : spf f (vs ++ []) H2 Q (E σ) := by rw [List.append_nil]; exact q
  exact run_G (ds := []) F hr gs hB .nil (hx σ) I2 r q2
end
end Ez
set_option Elab.async false
set_option linter.all false
set_option maxRecDepth 100000
namespace Ez
open L2 PySem PyProof.Rows PySem.Spec
def tMakeS (C : Addr) (sp : Sp) (E : L2.St → XK) (t : TA) : TE := fun σ H Q => t σ H fun vs H1 => ∀ x dx, H1 x = none → H1 dx = none → dx ≠ x →
  sp (.ref x :: vs) (upd (upd H1 dx (.own x)) x (.ins C dx [])) (fun v H2 => v = .non ∧ Q (.ref x) H2) (E σ)
section
variable {X : Cx} {k : Nat} {f C : Addr} {fd : FuncData} {ps : List Str} {sp : Sp} {x : Str} {p pos : Pos} {e : Expr} {es : List Expr} {ta : TA}
theorem no_guard (A : Around) (C : Addr) (us : List Value) : (A.under (.builtin "type.__call__" ⟨.ref C :: us, []⟩)).guards = A.guards := by
  change pushGuards (Code.guards (.builtin "type.__call__" ⟨.ref C :: us, []⟩)) A.guards = A.guards
  have e : Code.guards (.builtin "type.__call__" ⟨.ref C :: us, []⟩) = [] := by
    have z : Code.isGuard (.builtin "type.__call__" ⟨.ref C :: us, []⟩) = false := by
      change guardIds.contains "type.__call__" = false
      decide +kernel
    unfold Code.guards
    rw [z]; rfl
  rw [e]; rfl
theorem make_G {E : XK} {pins : List (Addr × Obj)} {σ : L2.St} {H : Hp} {s : Shared} {Q : VK} {us : List Value} {vs : List V} (M : Mk X.K C f) (F : FnG X.prog X.w X.K X.mg X.base k f fd ps sp) (hr : Room (k + 1) X.A) (gs : X.A.guards = some []) (hb : Binds X.K fd ps []) (hx : PassesAt (L2N.CX X.prog X.w) X σ E)
    (I : L2.Inv X pins σ H s) (r : Vals vs us) (q : ∀ x dx, H x = none → H dx = none → dx ≠ x → sp (.ref x :: vs) (upd (upd H dx (.own x)) x (.ins C dx [])) (fun v H2 => v = .non ∧ Q (.ref x) H2) E) :
    wpAny (model X.prog X.w) X.A (PySem.call (.ref C) us) (EP X pins σ Q) X.xe s := by
  have q0 := q (s.heap.objs.size + 1) s.heap.objs.size (I.hok.fresh (Nat.le_succ _)) (I.hok.fresh (Nat.le_refl _)) (Nat.ne_of_lt (Nat.lt_succ_self _))
  have J := Inv.made (C := C) I
  have rr : Vals (V.ref (s.heap.objs.size + 1) :: vs) (Value.ref (s.heap.objs.size + 1) :: us) := .cons rfl r
  have hl : (Value.ref (s.heap.objs.size + 1) :: us ++ []).length = ps.length := by
    rw [List.append_nil, ← rr.length]; exact F.size _ _ _ _ q0
  have bd := hb _ (Value.ref (s.heap.objs.size + 1) :: us) J.kIn hl
  rw [List.append_nil] at bd
  refine wpAny_call (make_map (f := f) I.kIn M.makes M.init (beq_iff_eq.mp M.fn) (codeAny_mono (F.go _ X.stack _ _ ⟨Value.ref (s.heap.objs.size + 1) :: us, []⟩ (Value.ref (s.heap.objs.size + 1) :: us) _ _ E (hr.make C us []) ((no_guard X.A C us).trans gs) (J.env0.make C us []) bd rr q0) fun res s2 z => ?_))
  match res, z with
  | .error u, z => exact hx pins _ _ u s2 J z
  | .ok (.ret u), z =>
    obtain ⟨v, H2, I3, rv, ev, q3⟩ := J.after z
    subst ev
    exact ⟨rv, ⟨V.ref (s.heap.objs.size + 1), H2, I3, rfl, q3⟩⟩
  | .ok .next, z => exact z.elim
  | .ok .brk, z => exact z.elim
  | .ok .cont, z => exact z.elim
theorem pe_makeGS {E : L2.St → XK} (M : Mk X.K C f) (F : FnG X.prog X.w X.K X.mg X.base k f fd ps sp) (hr : Room (k + 1) X.A) (gs : X.A.guards = some []) (hg : Gl X x) (hm : X.mg x = some (.ref C)) (hb : Binds X.K fd ps []) (hx : ∀ σ, PassesAt (L2N.CX X.prog X.w) X σ (E σ))
    (ha : PA X (e :: es) ta) (hdb : (x == ("__debug__" : Str)) = false := by decide) (he : starEach (e :: es) X.env = (false, eval e X.env) :: starEach es X.env := by rfl) (hpl : (backTo pos (starEach es X.env)).any (·.1) = false := by rfl) :
    PE X (.Call (.Name x p) (e :: es) [] pos) (tMakeS C sp E ta) := by
  constructor
  intro pins s σ H Q I h
  refine wpAny_Call_Name_kw (ld_glob I hg (pos := p) hm ?_ hdb)
  refine PySem.W.callWith_K (h₀ := X.base) I.ok.mod.kin M.kp (thn (ha.run pos pins s σ H _ I h) ?_) he hpl
  rintro us s1 ⟨vs, H1, J, r, q⟩
  exact ⟨J.kIn, make_G M F hr gs hb (hx σ) J r q⟩
end
end Ez
set_option Elab.async false
set_option linter.all false
set_option maxRecDepth 100000
namespace PySem.W
open PySem PyProof.Rows
open Builtin
section
variable {prog : Program} {w : World} {A : Around} {E : Value → Shared → Prop} {s : Shared} {K : Frag} {x C L f : Addr} {h₀ : Heap} {m : Str → Option Value} {ox : Obj} {od : Option Obj} {b tb : Value}
theorem ifBoundNe_K {M : Model} {args : List Value} {Q : Option Value → Shared → Prop} (X : K.In s.heap) (I : InstAt s.heap x ox C od) (hs : findIn K (.ref C) "__ne__" = some (some (.builtin "object.__ne__")))
    (h : wpAny M A (call (.builtin "object.__ne__") (.ref x :: args)) (fun v => Q (some v)) E s) : wpAny M A (callSpecialIfBound? (.ref x) "__ne__" args) Q E s := by
  simp only [callSpecialIfBound?, bindSpecialIfBound?]
  refine wpAny_holding (wpAny_bind (wpAny_bind (wpAny_bind (I.type.here ((looks_findIn X hs).here ?_)))))
  refine wpAny_bind (wpAny_askSetting (wpAny_ite ?_))
  have fin : wpAny M A (call (.builtin "object.__ne__") ([.ref x] ++ args) >>= fun v => pure (some v)) Q E s := wpAny_bind (wpAny_mono h (fun v s' h' => wpAny_pure h') fun _ _ h' => h')
  have B := PySem.F.cmp_object.ne.bind (.ref x)
  rw [B]
  split
  · exact wpAny_bind (wpAny_pure (wpAny_pure fin))
  · exact wpAny_tryCatch (wpAny_bind (wpAny_pure (wpAny_pure fin)))
theorem objNe_K (X : K.In s.heap) (I : InstAt s.heap x ox C od) (hs : findIn K (.ref C) "__eq__" = some (some (.ref f))) (hf : isFn K (.ref f) = true) (hu : A.units < cLine) {Q : Fin → Shared → Prop}
    (hcall : wpAny (model prog w) A (call (.ref f) [.ref x, b]) (fun v s' => ∃ r, v = .bool r ∧ Q (.done (.ret (.bool (!r)))) s') E s) :
    wpAny (model prog w) A (Builtin.«object.__ne__» ⟨[.ref x, b], []⟩) Q E s := by
  unfold Builtin.«object.__ne__»
  repeat (first
    | with_reducible refine wpAny_cRoomFor hu ?_
    | (refine wpAny_bind (m := callSpecialIfBound? (.ref x) (Str.ofString "__eq__") [b])
        (ifBound_K X I hs hf (wpAny_mono hcall (fun r s' hr => by
          obtain ⟨b, rfl, hq⟩ := hr
          repeat (first | exact hq | exact wpAny_pure hq | exact wpAny_truthy_bool hq | (refine wpAny_bind (m := truthy (.bool _)) (wpAny_truthy_bool ?_)) | wp_step)) fun _ _ e => e)))
    | wp_step)
/-- != of two things whose class has an own __eq__ and no own __ne__ -/
theorem cmpNe_K {Q : Value → Shared → Prop} (hu : A.units + 2 < cLine) (F : Fr h₀ L s.heap m) (X₀ : K.In h₀) (I : InstAt s.heap x ox C od) (hb : Looks (model prog w) s.heap (typeOf b) tb) (hn : notFirst K C tb = true)
    (hs : findIn K (.ref C) "__eq__" = some (some (.ref f))) (hf : isFn K (.ref f) = true) (hne : findIn K (.ref C) "__ne__" = some (some (.builtin "object.__ne__"))) (hi : subIn K (.ref C) (.type "object") = some true)
    (h : wpAny (model prog w) A.in1 (call (.ref f) [.ref x, b]) (fun v s' => ∃ r, v = .bool r ∧ Q (.bool (!r)) s') E s) : wpAny (model prog w) A (richCompare .NotEq (.ref x) b) Q E s := by
  have X := X₀.keeps F.keep
  have one : wpAny (model prog w) A (tryCompare (.ref x) "__ne__" b) (fun r s' => ∃ v, r = some v ∧ Q v s') E s := by
    unfold tryCompare
    refine wpAny_bind (ifBoundNe_K X I hne (wpAny_call (codeAny_call_builtin PySem.F.cmp_object.ne.plain PySem.F.cmpEntry_ne (check_slot PySem.F.cmpKind_ne PySem.F.cmpSplit_ne (I.type.andThen (looks_subIn X hi)) (PySem.F.cmpArgs_ne _ _)
      (objNe_K (A := A.in1) X I hs hf (show A.units + 1 < cLine by omega) (wpAny_mono h (fun v s' hv => ?_) fun _ _ e => e))))))
    obtain ⟨r, rfl, hq⟩ := hv
    first | exact ⟨_, rfl, wpAny_pure ⟨_, rfl, hq⟩⟩ | exact wpAny_pure ⟨_, rfl, hq⟩ | exact ⟨_, rfl, wpAny_pure (wpAny_pure ⟨_, rfl, hq⟩)⟩
  unfold richCompare
  simp only [oneThing_ref]
  refine wpAny_holding (wpAny_bind (wpAny_cRoomFor (by omega) ?_))
  refine wpAny_bind (I.type.here (wpAny_bind (hb.here ?_)))
  split
  · rename_i q
    have e : subIn K tb (.ref C) = some false := by
      rcases Bool.or_eq_true_iff.mp hn with e | e
      · rw [beq_iff_eq.mp e] at q; simp at q
      · exact beq_iff_eq.mp e
    refine wpAny_bind ((looks_subIn X e).here ?_)
    simp only [Bool.false_eq_true, if_false]
    refine wpAny_bind (wpAny_mono one (fun r s' z => ?_) fun _ _ e => e)
    obtain ⟨v, rfl, hq⟩ := z
    exact wpAny_pure hq
  · refine wpAny_bind (wpAny_pure ?_)
    simp only [Bool.false_eq_true, if_false]
    refine wpAny_bind (wpAny_mono one (fun r s' z => ?_) fun _ _ e => e)
    obtain ⟨v, rfl, hq⟩ := z
    exact wpAny_pure hq
end
end PySem.W
namespace Ez
open L2 PySem PyProof.Rows PySem.Spec
/-- == and != of two things of one class with an own __eq__ -/
def rOwn (C : Addr) (sp : Sp) (n : Bool) : R2 := fun x y H Q => ∃ a b dx dy fs gs, x = .ref a ∧ y = .ref b ∧ H a = some (.ins C dx fs) ∧ H b = some (.ins C dy gs) ∧
  sp [.ref a, .ref b] H (fun v H' => ∃ r, v = .bl r ∧ Q (.bl (n != r)) H') E0
/-- what a class with an own __eq__ (and no own __ne__) shows -/
structure OwnT (K : PySem.W.Frag) (C f : Addr) : Prop where
  eq : PySem.W.findIn K (.ref C) "__eq__" = some (some (.ref f))
  fn : PySem.W.isFn K (.ref f) = true
  ne : PySem.W.findIn K (.ref C) "__ne__" = some (some (.builtin "object.__ne__"))
  ob : PySem.W.subIn K (.ref C) (.type "object") = some true
section
variable {X : Cx} {k : Nat} {f C : Addr} {fd : FuncData} {ps : List Str} {sp : Sp}
/-- a def called one level below -/
theorem run_G1 {pins : List (Addr × Obj)} {σ : L2.St} {H : Hp} {s : Shared} {Q : VK} {us : List Value} {vs : List V} {A : Around} (F : FnG X.prog X.w X.K X.mg X.base k f fd ps sp) (hr : Room k A) (fr : A.frames = X.A.frames) (gs : A.guards = some []) (hb : Binds X.K fd ps [])
    (hx : PassesAt (L2N.CX X.prog X.w) X σ E0) (I : L2.Inv X pins σ H s) (r : Vals vs us) (q : sp vs H Q E0) : wpAny (model X.prog X.w) A (PySem.call (.ref f) us) (EP X pins σ Q) X.xe s := by
  have e0 : Env0 X.prog X.w X.K X.mg X.base A X.stack s H := by
    have e := I.env0
    exact ⟨by rw [fr]; exact e.frames, e.mod, e.bs, e.bsz, e.funs, e.frf, e.hok, e.bare⟩
  have hl : us.length = ps.length := by rw [← r.length]; exact F.size _ _ _ _ q
  refine wpAny_call (codeAny_mono (F.go A X.stack s H ⟨us, []⟩ us vs Q _ hr gs e0 (by
    have := hb s us I.kIn (by simpa using hl)
    simpa using this) r q) fun res s2 z => ?_)
  match res, z with
  | .error u, z => exact hx pins H s u s2 I z
  | .ok (.ret u), z => exact I.after z
  | .ok .next, z => exact z.elim
  | .ok .brk, z => exact z.elim
  | .ok .cont, z => exact z.elim
theorem op_eqOwn (T : OwnT X.K C f) (F : FnG X.prog X.w X.K X.mg X.base k f fd ps sp) (hr : Room k X.A) (gs : X.A.guards = some []) (hb : Binds X.K fd ps []) (hx : ∀ σ, PassesAt (L2N.CX X.prog X.w) X σ E0) : OpR X (compareOp .Eq) (rOwn C sp false) := by
  intro pins s σ H x y v u Q I rx ry hq
  obtain ⟨a, b, dx, dy, fs, gs', rfl, rfl, ha, hb', q⟩ := hq
  cases rx
  cases ry
  obtain ⟨mA, J, _⟩ := ins_get I.hok ha
  obtain ⟨mB, J', _⟩ := ins_get I.hok hb'
  obtain ⟨od, J, _⟩ := J.look
  obtain ⟨od', J', _⟩ := J'.look
  obtain ⟨m, hF⟩ := I.fr
  have r2 : Vals [V.ref a, V.ref b] [Value.ref a, Value.ref b] := .cons rfl (.cons rfl .nil)
  show wpAny (model X.prog X.w) X.A (richCompare .Eq _ _) (EP X pins σ Q) X.xe s
  refine PySem.W.cmp_K (op := .Eq) (tb := .ref C) hr.units0 hF I.ok.mod.kin J J'.type (by simp [PySem.W.notFirst]) T.eq T.fn (wpAny_mono (run_G1 F hr rfl gs hb (hx σ) I r2 q) (fun v s' z => ?_) fun _ _ e => e)
  obtain ⟨v', H', I', rv, r, e, q⟩ := z
  subst e
  cases rv
  exact ⟨.bl r, H', I', rfl, by simpa using q⟩
theorem op_neOwn (T : OwnT X.K C f) (F : FnG X.prog X.w X.K X.mg X.base k f fd ps sp) (hr : Room (k + 1) X.A) (gs : X.A.guards = some []) (hb : Binds X.K fd ps []) (hx : ∀ σ, PassesAt (L2N.CX X.prog X.w) X σ E0) : OpR X (compareOp .NotEq) (rOwn C sp true) := by
  intro pins s σ H x y v u Q I rx ry hq
  obtain ⟨a, b, dx, dy, fs, gs', rfl, rfl, ha, hb', q⟩ := hq
  cases rx
  cases ry
  obtain ⟨mA, J, _⟩ := ins_get I.hok ha
  obtain ⟨mB, J', _⟩ := ins_get I.hok hb'
  obtain ⟨od, J, _⟩ := J.look
  obtain ⟨od', J', _⟩ := J'.look
  obtain ⟨m, hF⟩ := I.fr
  have r2 : Vals [V.ref a, V.ref b] [Value.ref a, Value.ref b] := .cons rfl (.cons rfl .nil)
  show wpAny (model X.prog X.w) X.A (richCompare .NotEq _ _) (EP X pins σ Q) X.xe s
  refine PySem.W.cmpNe_K (tb := .ref C) (by have := hr.units; omega) hF I.ok.mod.kin J J'.type (by simp [PySem.W.notFirst]) T.eq T.fn T.ne T.ob (wpAny_mono (run_G1 (A := X.A.in1) F hr.in1 rfl gs hb (hx σ) I r2 q) (fun v s' z => ?_) fun _ _ e => e)
  obtain ⟨v', H', I', rv, r, e, q⟩ := z
  subst e
  cases rv
  exact ⟨r, rfl, .bl (!r), H', I', rfl, by simpa using q⟩
theorem OpR.alt {g : Value → Value → Sem Value} {r r' : R2} (h : OpR X g r) (h' : OpR X g r') : OpR X g (rOr r r') := fun pins s σ H x y v u Q I rx ry q => q.elim (h pins s σ H x y v u Q I rx ry) (h' pins s σ H x y v u Q I rx ry)
end
end Ez
set_option Elab.async false
set_option linter.all false
set_option maxRecDepth 100000
namespace Ez
open PySem PyProof.Rows
section
variable {P : Program} {w : World} {A : Around} {s : Shared} {Z : Bool → Shared → Prop}
theorem katLexI {b : Bool} : ∀ {us vs : List Value} {ms ns : List Int} (j : Nat), IntsAre us ms → IntsAre vs ns → ms.length = ns.length → Z (HT.lexLt ms ns) s → PySem.W.KatLex P w A b false Z (us.zip vs) j s
  | _, _, _, _, j, .nil, .nil, _, z => PySem.W.kat_nil (show Z false s from z)
  | _, _, _, _, j, .nil, .cons _ _ _, e, _ => by simp at e
  | _, _, _, _, j, .cons _ _ _, .nil, e, _ => by simp at e
  | _, _, m :: ms, n :: ns, j, .cons _ a hu, .cons _ c hv, e, z => by
    refine PySem.W.kat_cons (SeqAt.EqAt.int_int m a n c P w _ _ ?_)
    rw [HT.lexLt_cons] at z
    refine PySem.W.kat_go (fun q => PySem.W.kat_yes ?_) (fun q => PySem.W.kat_no (TS.oneLt_ints _ ?_))
    · have q' : m = n := by simpa using q
      rw [if_pos q'] at z
      exact katLexI (j + 1) hu hv (by simpa using e) z
    · have q' : ¬ m = n := by simpa using q
      rw [if_neg q'] at z
      exact z
theorem cmpT {us : List Value} {k : Value → List Int} {d : Nat} (hp : ∀ u ∈ us, TS.TupInts s.heap u (k u) ∧ (k u).length = d) : SrtO.Cmp P w A s (tuples' true) (fun p => p.1 ∈ us) (SrtO.lt2 fun a c => HT.lexLt (k a) (k c)) := by
  intro p q m1 m2
  obtain ⟨⟨a, xs, ea, ⟨o, ho, _, n, hd⟩, hi⟩, ha⟩ := hp _ m1
  obtain ⟨⟨c, ys, ec, ⟨o', ho', _, n', hd'⟩, hi'⟩, hc⟩ := hp _ m2
  show wpAny (model P w) A (keyLt' (tuples' true) p.1 q.1) (fun r s' => s' = s ∧ r = HT.lexLt (k p.1) (k q.1)) (fun _ _ => False) s
  have g := katLexI (P := P) (w := w) (A := A) (s := s) (b := true) (Z := fun r s' => s' = s ∧ r = HT.lexLt (k p.1) (k q.1)) 0 hi hi' (ha.trans hc.symm) ⟨rfl, rfl⟩
  have z : decide (xs.size < ys.size) = false := by
    have l1 := hi.length
    have l2 := hi'.length
    simp only [Array.length_toList] at l1 l2
    exact decide_eq_false (by omega)
  rw [ea, ec] at *
  refine PySem.W.kat_lt ho hd ho' hd' ?_
  rw [z]
  exact g
theorem firstsT {h : Heap} : ∀ {us : List Value}, (∀ u ∈ us, ∃ ns, TS.TupInts h u ns ∧ 1 ≤ ns.length) → ∃ fs : List Value, PySem.W.KatTups h us fs ∧ fs.length = us.length ∧ ∀ f ∈ fs, ∃ n t, f = Value.int n t
  | [], _ => ⟨[], PySem.W.KatTups.nil, rfl, fun _ hf => absurd hf (by simp)⟩
  | u :: us, x => by
    obtain ⟨fs, g1, g2, g3⟩ := firstsT fun v hv => x v (List.mem_cons_of_mem _ hv)
    obtain ⟨ns, ⟨a, xs, rfl, ⟨o, ho, hc, n, hd⟩, hi⟩, l1⟩ := x u List.mem_cons_self
    cases e : xs.toList with
    | nil =>
      rw [e] at hi
      have l2 := hi.length
      simp only [List.length_nil] at l2
      omega
    | cons y ys =>
      obtain ⟨m, t, rfl⟩ := hi.all y (by rw [e]; exact List.mem_cons_self)
      refine ⟨_ :: fs, PySem.W.KatTups.cons (f := .int m t) ho hc hd ?_ g1, by rw [List.length_cons, List.length_cons, g2], fun f hf => ?_⟩
      · rw [← Array.getElem?_toList, e]; rfl
      · rcases List.mem_cons.mp hf with rfl | hf
        · exact ⟨m, t, rfl⟩
        · exact g3 f hf
theorem ableT {a : Addr} {us : List Value} {k : Value → List Int} {d : Nat} (h0 : 0 < us.length) (hd : 1 ≤ d) (hp : ∀ u ∈ us, TS.TupInts s.heap u (k u) ∧ (k u).length = d) (ha : ∀ o, s.heap.get? a = some o → o.cls ≠ .type "tuple") :
    SrtO.SortableO P w A s a us fun x y => HT.lexLt (k x) (k y) := by
  intro h' kp
  have hq : ∀ u ∈ us, TS.TupInts h' u (k u) ∧ (k u).length = d := fun u hu => ⟨(hp u hu).1.keeps fun b o e c => kp b o (fun z => by subst z; exact ha o e c) e, (hp u hu).2⟩
  obtain ⟨fs, g1, g2, g3⟩ := firstsT fun u hu => ⟨_, (hq u hu).1, by rw [(hq u hu).2]; exact hd⟩
  refine ⟨tuples' true, fun R E r => ?_, cmpT hq⟩
  refine PySem.W.kat_kind (T := .type "int") g1 (by omega) (fun f hf => ?_) (by rfl) ?_
  · obtain ⟨m, t, rfl⟩ := g3 f hf
    exact PySem.W.Looks.now
  · exact r
end
open L2 PySem.Spec
def F2 {α β : Type} (R : α → β → Prop) : List α → List β → Prop
  | [], [] => True
  | a :: l, b :: m => R a b ∧ F2 R l m
  | _, _ => False
theorem F2.left {α β : Type} {R : α → β → Prop} : ∀ {l : List α} {m : List β}, F2 R l m → ∀ a ∈ l, ∃ b ∈ m, R a b
  | [], [], _, a, h => absurd h (by simp)
  | x :: l, y :: m, ⟨h1, h2⟩, a, h => by
    rcases List.mem_cons.mp h with rfl | h
    · exact ⟨y, List.mem_cons_self, h1⟩
    · obtain ⟨b, hb, r⟩ := F2.left h2 a h
      exact ⟨b, List.mem_cons_of_mem _ hb, r⟩
theorem F2.map {α β γ : Type} {R : α → β → Prop} {f : γ → α} {g : γ → β} : ∀ {l : List γ}, (∀ x ∈ l, R (f x) (g x)) → F2 R (l.map f) (l.map g)
  | [], _ => trivial
  | x :: l, h => ⟨h x List.mem_cons_self, F2.map fun y hy => h y (List.mem_cons_of_mem _ hy)⟩
theorem F2.back {α β γ : Type} {R : α → β → Prop} {f : γ → α} {g : γ → β} : ∀ {l : List γ} {m : List β}, F2 R (l.map f) m → (∀ x ∈ l, ∀ b, R (f x) b → b = g x) → m = l.map g
  | [], [], _, _ => rfl
  | [], _ :: _, h, _ => h.elim
  | _ :: _, [], h, _ => h.elim
  | x :: l, b :: m, ⟨h1, h2⟩, k => by
    rw [k x List.mem_cons_self b h1, F2.back h2 fun y hy => k y (List.mem_cons_of_mem _ hy)]
    rfl
/-- sorted(xs), xs a list of tuples of d ints; R says which -/
def rSortX (K : PySem.W.Frag) : List V → Hp → VK → Prop := fun vs H Q => ∃ (a : Addr) (xs : List V) (ts : List (List Int)) (R : V → List Int → Prop) (d : Nat), vs = [V.ref a] ∧ SqL K H a xs ∧ 1 ≤ d ∧ (∀ x n, R x n → TupI K H x n ∧ n.length = d) ∧ F2 R xs ts ∧
  ∀ ys ms p, ms.Perm ts → SrtO.Srtd HT.lexLt ms → F2 R ys ms → H p = none → Q (.ref p) (upd H p (.lst ys))
theorem cr_sortX {X : Cx} : CallR X (.builtin "sorted") (rSortX X.K) := by
  intro pins s σ H vs us Q I rv g
  obtain ⟨a, xs, ts, R, d, rfl, sq, hd, hR, hx, q⟩ := g
  obtain ⟨its, ri, hl, hz⟩ := I.list sq
  rw [Vals.ref1 rv]
  obtain ⟨e1, e2⟩ := bkV_refs ri fun x m => by
    obtain ⟨n, _, r⟩ := hx.left x m
    obtain ⟨⟨t, e, _⟩, _⟩ := hR x n r
    exact ⟨t, e⟩
  have raw : ∀ u ∈ its, ∀ n, R (bkV u) n → TS.TupInts s.heap u n ∧ n.length = d := fun u hu n r => by
    obtain ⟨t, rfl⟩ := e2 u hu
    obtain ⟨⟨t', e, ht⟩, l⟩ := hR _ n r
    cases e
    exact ⟨tupI_raw I ht, l⟩
  have own : ∀ u ∈ its, R (bkV u) (TS.intsOf s.heap u) := fun u hu => by
    obtain ⟨n, _, r⟩ := hx.left (bkV u) (by rw [e1]; exact List.mem_map.mpr ⟨u, hu, rfl⟩)
    rw [(raw u hu n r).1.ints]
    exact r
  have ts_eq : ts = its.map (TS.intsOf s.heap) := F2.back (f := bkV) (by rw [← e1]; exact hx) fun u hu n r => (raw u hu n r).1.ints.symm
  refine SrtO.sorted_ord (ltv := fun u v => HT.lexLt (TS.intsOf s.heap u) (TS.intsOf s.heap v)) (NtL.swo_lexL _) hl.isList (by rw [← ri.length]; exact hz) (fun h2 h₁ b hb kk => ?_) fun out o1 o2 => ?_
  · refine ableT (s := { s with heap := h₁ }) (k := TS.intsOf s.heap) (by omega) hd (fun u hu => ?_) fun o e => ?_
    · obtain ⟨t1, t2⟩ := raw u hu _ (own u hu)
      exact ⟨t1.keeps fun c o e _ => (kk c o e).2, t2⟩
    have e' := e.symm.trans hb
    cases e'
    intro c
    exact absurd (Value.type.inj c) (by decide)
  · obtain ⟨n, hn⟩ := PyProof.Rows.sortedAll_at s.heap its out.toArray
    have g3 : ∀ u ∈ out, ∃ a, u = Value.ref a := fun u hu => e2 u (o2.perm.mem_iff.mp hu)
    refine ⟨.ref _, upd H (s.heap.objs.size + 1) (.lst (out.map bkV)), I.laid (t' := s.toks) (fun _ _ e => PyProof.Rows.sortedAll_old e) (Nat.le_succ _) ⟨?_, out, n, bkV_vals g3, hn⟩, rfl, q _ (out.map (TS.intsOf s.heap)) _ ?_ ?_ (F2.map fun u hu => own u (o2.perm.mem_iff.mp hu)) (I.hok.fresh (Nat.le_succ _))⟩
    · rw [List.length_map, o2.len, ← ri.length]
      exact hz
    · rw [ts_eq]
      exact o2.perm.map _
    · exact List.pairwise_map.mpr o1
/-- both kinds -/
def rSortB (K : PySem.W.Frag) : List V → Hp → VK → Prop := fun vs H Q => rSorted K vs H Q ∨ rSortX K vs H Q
theorem cr_sortB {X : Cx} : CallR X (.builtin "sorted") (rSortB X.K) := fun pins s σ H vs us Q I rv g => by
  rcases g with g | g
  · exact cr_sorted pins s σ H vs us Q I rv g
  · exact cr_sortX pins s σ H vs us Q I rv g
end Ez
set_option Elab.async false
set_option linter.all false
set_option maxRecDepth 100000
namespace Ez
open PySem PyProof.Rows
section
variable {P : Program} {w : World} {A : Around} {E : Value → Shared → Prop} {s : Shared}
/-- what is collected of a list or a tuple, the heap told -/
theorem collect_at {Q : List Value → Shared → Prop} (it : Addr) {T : String} {o : Obj} {items : Array Value} {n : Nat} (hT : T = "list" ∨ T = "tuple") (ho : s.heap.get? it = some o) (hc : o.cls = .type T) (hd : o.data = .seq items n) (hsz : items.size ≤ sizeLine)
    (q : Q items.toList { s with heap := (s.heap.push (seqObj "list" #[] 0)).update s.heap.objs.size (Obj.mapSeq (· ++ items)) }) : wpAny (model P w) A (collect (.ref it)) Q E s := by
  let s1 : Shared := { s with heap := s.heap.push (seqObj "list" #[] 0) }
  let s2 : Shared := { s with heap := (s.heap.push (seqObj "list" #[] 0)).update s.heap.objs.size (Obj.mapSeq (· ++ items)) }
  have hS : s1.heap.get? s.heap.objs.size = some { cls := .type "list", data := .seq #[] 0 } := Heap.get?_push_size _ rfl
  have hS2 : s2.heap.get? s.heap.objs.size = _ := Heap.get?_update_self (Obj.mapSeq (· ++ items)) hS rfl
  have fin : wpAny (model P w) A (do match (← load s.heap.objs.size).data with | Data.seq xs _ => pure xs.toList | _ => unsupported "internal:collect") Q E s2 := by
    refine wpAny_bind (wpAny_load hS2 (wpAny_pure ?_))
    show Q ((#[] : Array Value) ++ items).toList s2
    rw [show ((#[] : Array Value) ++ items).toList = items.toList by simp]; exact q
  unfold collect
  refine wpAny_bind (wpAny_runValue (codeAny_builtin F.entry_proto_collect (by
    rw [Around.under_plainId F.plain_proto_collect _]
    refine wpAny_bind (wpAny_newObj_type (wpAny_pure ⟨plainId_quiet F.plain_list_iadd _, codeAny_builtin F.entry_list_iadd ?_⟩))
    rw [Around.under_plainId F.plain_list_iadd _]
    refine wpAny_mono (wpAny_extend_seq (A := A) (hsz := hsz) (s := s1) s.heap.objs.size it (.ref s.heap.objs.size) 0 (R := fun r s' => r = .ok (.ret (.ref s.heap.objs.size)) ∧ s' = s2) hT hS (Heap.get?_push_of_some _ ho) hc hd ⟨rfl, rfl⟩) (fun f s' h => ?_) fun e s' h => absurd h.1 (by simp)
    match f, h with
    | .done f, h => obtain ⟨e, rfl⟩ := h; cases e; exact fin
    | .again c, h => exact ⟨h.1, codeAny_mono h.2 fun r s3 hr => by obtain ⟨rfl, rfl⟩ := hr; exact fin⟩)))
theorem sorted_tupI {l : Addr} {vs : List Value} {ns : List Int} {Q : Value → Shared → Prop} (ht : s.heap.IsTuple l vs.toArray) (hi : IntsAre vs ns) (hz : vs.length < 64)
    (q : ∀ (out : Array Value) (ms : List Int), IntsAre out.toList ms → ms.Perm ns → ms.Pairwise (· ≤ ·) → Q (.ref (s.heap.objs.size + 1)) { s with heap := sortedAll s.heap vs out }) :
    wpAny (model P w) A (call (.builtin "sorted") [.ref l]) Q E s := by
  obtain ⟨o, ho, hc, n, hd⟩ := ht
  have z1 : vs.length ≤ sizeLine := Nat.le_of_lt (Nat.lt_of_lt_of_le hz (by decide))
  refine Calls.call_function_entry kind_sorted plain_sorted entry_sorted (args_sorted1 (Value.ref l)) ?tree
  unfold Builtin.«sorted»
  refine wpAny_bind (m := checkCount "sorted" 1 1 1) (wpAny_pure ?_)
  refine wpAny_bind (collect_at (T := "tuple") l (.inr rfl) ho hc hd (by rw [List.size_toArray]; exact z1) ?_)
  rw [show vs.toArray.toList = vs by simp]
  refine wpAny_bind (wpAny_newList ?_ z1)
  let g := (s.heap.push (seqObj "list" #[] 0)).update s.heap.objs.size (Obj.mapSeq (· ++ vs.toArray))
  have hg : g.objs.size = s.heap.objs.size + 1 := by show (Heap.update _ _ _).objs.size = _; rw [Heap.size_update, size_push']
  have at1 : (g.push (seqObj "list" vs.toArray 0)).get? (s.heap.objs.size + 1) = some (seqObj "list" vs.toArray 0) := by rw [← hg]; exact Heap.get?_push_size g rfl
  show wpAny (model P w) _ _ _ _ { s with heap := g.push (seqObj "list" vs.toArray 0) }
  show wpAny (model P w) _ (holding [.ref g.objs.size] _ >>= _) _ _ _
  rw [hg]
  exact wpAny_bind (wpAny_holding (wpAny_call_entry slot_list_sort ⟨_, at1, rfl⟩ entry_list_sort (list_sort_tree at1 hi hz fun out ms o1 o2 o3 => ⟨_, rfl, wpAny_pure ⟨_, rfl, q out ms o1 o2 o3⟩⟩) (args_list_sort (Value.ref _))))
end
open L2 PySem.Spec
def rSortT (K : PySem.W.Frag) : List V → Hp → VK → Prop := fun vs H Q => ∃ (a : Addr) (ns : List Int), vs = [V.ref a] ∧ SqT K H a (ns.map V.int) ∧ ns.length < 64 ∧
  ∀ (ms : List Int) (p : Addr), ms.Perm ns → ms.Pairwise (· ≤ ·) → H p = none → Q (.ref p) (upd H p (.lst (ms.map V.int)))
theorem cr_sortT {X : Cx} : CallR X (.builtin "sorted") (rSortT X.K) := by
  intro pins s σ H vs us Q I rv g
  obtain ⟨a, ns, rfl, hs, hz, q⟩ := g
  obtain ⟨its, ri, ht, _⟩ := I.tuple hs
  rw [Vals.ref1 rv]
  have hi := ri.ints
  refine sorted_tupI (show s.heap.IsTuple a its.toArray from ht) hi (by rw [hi.length]; exact hz) fun out ms o1 o2 o3 => ?_
  obtain ⟨e, he⟩ := sortedAll_at s.heap its out
  have hl : (ms.map V.int).length ≤ sizeLine := by rw [List.length_map, o2.length_eq]; exact small64 hz
  have hp : s.heap.objs.size ≤ s.heap.objs.size + 1 := Nat.le_succ _
  exact ⟨.ref (s.heap.objs.size + 1), upd H (s.heap.objs.size + 1) (.lst (ms.map V.int)), I.laid (t' := s.toks) (fun _ _ z => sortedAll_old z) hp ⟨hl, out.toList, e, vals_of_ints o1, he⟩, rfl, q ms _ o2 o3 (I.hok.fresh hp)⟩
/-- all three kinds -/
def rSortC (K : PySem.W.Frag) : List V → Hp → VK → Prop := fun vs H Q => rSortB K vs H Q ∨ rSortT K vs H Q
theorem cr_sortCK {X : Cx} {K : PySem.W.Frag} (e : X.K = K) : CallR X (.builtin "sorted") (rSortC K) := fun pins s σ H vs us Q I rv g => by
  subst e
  rcases g with g | g
  · exact cr_sortB pins s σ H vs us Q I rv g
  · exact cr_sortT pins s σ H vs us Q I rv g
end Ez
set_option Elab.async false
set_option maxRecDepth 100000
set_option maxHeartbeats 4000000
set_option linter.all false
namespace Ez
open PySem PyProof.Rows
end Ez
set_option Elab.async false
set_option maxRecDepth 100000
set_option maxHeartbeats 4000000
set_option linter.all false
namespace Ez
open PySem PyProof.Rows
structure ZG (P1 P2 : Nat → Value → Prop) (N : Nat) (h : Heap) (as : List Addr) : Prop where
  rise : as.Pairwise (· < ·)
  above : ∀ a ∈ as, N ≤ a
  pairs : ∀ j a, as[j]? = some a → ∃ x1 x2, P1 j x1 ∧ P2 j x2 ∧ IsTupOf2 h a x1 x2
abbrev lstO (acc : Array Value) (c : Nat) : Obj := { cls := .type "list", data := .seq acc c }
section
variable {prog : Program} {w : World} {A : Around} {s : Shared} {R : Result → Shared → Prop} {z TI TO T i1 i2 L : Addr} {fp1 fp2 : List Addr} {n N : Nat} {P1 P2 : Nat → Value → Prop} {St1 St2 : Nat → Heap → Prop}
theorem ZG.lt {h : Heap} {as : List Addr} (G : ZG P1 P2 N h as) {a : Addr} (m : a ∈ as) : a < h.objs.size := by
  obtain ⟨j, hj, e⟩ := List.mem_iff_getElem.mp m
  obtain ⟨x1, x2, _, _, t⟩ := G.pairs j a (by rw [List.getElem?_eq_getElem hj, e])
  exact Heap.lt_size t
end
end Ez
set_option Elab.async false
set_option maxRecDepth 100000
set_option maxHeartbeats 4000000
set_option linter.all false
namespace Ez
open PySem PyProof.Rows
end Ez
set_option Elab.async false
set_option maxRecDepth 100000
set_option maxHeartbeats 4000000
set_option linter.all false
namespace Ez
open PySem PyProof.Rows
end Ez
set_option Elab.async false
set_option linter.all false
set_option maxRecDepth 100000
namespace PySem
open Sem (wp)
def SeqB (b : Bool) (h : Heap) (a : Addr) (items : Array Value) : Prop := match b with | true => h.IsTuple a items | false => h.IsList a items
def IterB (b : Bool) (h : Heap) (it a : Addr) (i : Nat) : Prop := match b with | true => h.IsTupleIter it a i | false => h.IsListIter it a i
theorem SeqB.lt {b : Bool} {h : Heap} {a : Addr} {items : Array Value} (x : SeqB b h a items) : a < h.objs.size := by
  cases b <;> (obtain ⟨o, e, _⟩ := x; exact Heap.lt_size e)
theorem IterB.obj {b : Bool} {h : Heap} {it a : Addr} {i : Nat} (x : IterB b h it a i) : ∃ o, h.get? it = some o ∧ o.data = .fields #[.ref a, .int i 0] := by
  cases b <;> (obtain ⟨o, e, _, d⟩ := x; exact ⟨o, e, d⟩)
theorem IterB.at {b : Bool} {h h' : Heap} {it a : Addr} {i : Nat} (x : IterB b h it a i) (k : ∀ o, h.get? it = some o → h'.get? it = some o) : IterB b h' it a i := by
  cases b <;> (obtain ⟨o, e, c, d⟩ := x; exact ⟨o, k o e, c, d⟩)
theorem SeqB.push {b : Bool} {h : Heap} {a : Addr} {items : Array Value} (x : SeqB b h a items) (o : Obj) : SeqB b (h.push o) a items := by
  cases b <;> (obtain ⟨o', e, r⟩ := x; exact ⟨o', Heap.get?_push_of_some _ e, r⟩)
end PySem
namespace Ez
open L2 PySem PyProof.Rows PySem.Spec
def SqK (K : PySem.W.Frag) (b : Bool) (H : Hp) (a : Addr) (xs : List V) : Prop := match b with | true => SqT K H a xs | false => SqL K H a xs
def ItzX (K : PySem.W.Frag) (p q : Bool) (a b : Addr) : It :=
  ⟨fun i H => ∃ (xs ys : List V) (x y : V), SqK K p H a xs ∧ SqK K q H b ys ∧ xs[i]? = some x ∧ ys[i]? = some y,
    fun i H v H' => ∃ T x y, v = .ref T ∧ H T = none ∧ H' = upd H T (.tup [x, y]) ∧ (∀ xs, SqK K p H a xs → xs[i]? = some x) ∧ ∀ ys, SqK K q H b ys → ys[i]? = some y,
    fun i H => ∃ xs ys : List V, SqK K p H a xs ∧ SqK K q H b ys ∧ i ≤ xs.length ∧ i ≤ ys.length ∧ (i = xs.length ∨ i = ys.length)⟩
def iZipQ (K : PySem.W.Frag) (ta : TA) : TI := fun σ H R => ta σ H fun vs H1 => ∃ a b xs ys p q, vs = [.ref a, .ref b] ∧ SqK K p H1 a xs ∧ SqK K q H1 b ys ∧ R (ItzX K p q a b) H1
theorem walk_zipX {K : PySem.W.Frag} {p q : Bool} {a b : Addr} {xs ys : List V} : Walk (ItzX K p q a b) (min xs.length ys.length) (fun H => SqK K p H a xs ∧ SqK K q H b ys) (YPair (fun i => xs[i]?) (fun i => ys[i]?)) :=
  ⟨fun i _ hi z => ⟨xs, ys, xs[i]'(by omega), ys[i]'(by omega), z.1, z.2, List.getElem?_eq_getElem _, List.getElem?_eq_getElem _⟩, fun _ z => ⟨xs, ys, z.1, z.2, by omega, by omega, by omega⟩, fun i H v H' _ z ⟨T, x, y, h1, h2, h3, h4, h5⟩ => ⟨T, x, y, h1, h2, h3, h4 xs z.1, h5 ys z.2⟩⟩
end Ez
set_option Elab.async false
set_option maxRecDepth 100000
set_option maxHeartbeats 4000000
set_option linter.all false
namespace Ez
open L2 PySem PyProof.Rows PySem.Spec
/-- fresh couples laid down -/
def putP : Hp → List Addr → List (V × V) → Hp
  | H, t :: ts, (x, y) :: r => putP (upd H t (.tup [x, y])) ts r
  | H, [], _ => H
  | H, _ :: _, [] => H
theorem putP_off : ∀ {ts : List Addr} {r : List (V × V)} {H : Hp} {b : Addr}, b ∉ ts → putP H ts r b = H b
  | [], r, H, b, _ => by cases r <;> rfl
  | t :: ts, [], H, b, _ => rfl
  | t :: ts, (x, y) :: r, H, b, h => by
    have h1 : b ≠ t := fun e => h (by simp [e])
    have h2 : b ∉ ts := fun e => h (by simp [e])
    show putP (upd H t (.tup [x, y])) ts r b = H b
    rw [putP_off h2, upd_ne h1]
theorem putP_at : ∀ {ts : List Addr} {r : List (V × V)} {H : Hp}, ts.Pairwise (· ≠ ·) → ts.length = r.length → ∀ {j : Nat} {t : Addr}, ts[j]? = some t → ∃ x y, r[j]? = some (x, y) ∧ putP H ts r t = some (.tup [x, y])
  | [], _, _, _, _, j, t, h => by simp at h
  | t0 :: ts, [], _, _, h, _, _, _ => by simp at h
  | t0 :: ts, (x, y) :: r, H, nd, hl, 0, t, h => by
    obtain ⟨n1, n2⟩ := List.pairwise_cons.mp nd
    cases h
    refine ⟨x, y, rfl, ?_⟩
    show putP (upd H t0 (.tup [x, y])) ts r t0 = _
    rw [putP_off fun m => n1 t0 m rfl, upd_same]
  | t0 :: ts, (x, y) :: r, H, nd, hl, j + 1, t, h => by
    obtain ⟨n1, n2⟩ := List.pairwise_cons.mp nd
    exact putP_at (H := upd H t0 (.tup [x, y])) n2 (by simpa using hl) (j := j) (by simpa using h)
end Ez
namespace Ez
open L2 PySem PyProof.Rows PySem.Spec
/-- list(zip(a, b)) of two sequences of one length -/
def rLZ (K : PySem.W.Frag) : List V → Hp → VK → Prop := fun zs H Q => ∃ a b xs ys p q, zs = [.ref a, .ref b] ∧ SqK K p H a xs ∧ SqK K q H b ys ∧ xs.length = ys.length ∧ xs.length ≤ sizeLine ∧
  ∀ l as, as.length = xs.length → (∀ t ∈ as, H t = none) → H l = none → l ∉ as → as.Pairwise (· ≠ ·) → Q (.ref l) (putP (upd H l (.lst (as.map .ref))) as (xs.zip ys))
end Ez
set_option Elab.async false
set_option linter.all false
set_option maxRecDepth 100000
namespace Ez
open L2 PySem PyProof.Rows PySem.Spec
inductive Snk
  | no
  | out (E : XK)
  | tr (W : WX)
def Snk.at : Snk → L2.St → XK
  | .no => fun _ => E0
  | .out E => fun _ => E
  | .tr W => WE W
structure Dn where
  K : KB
  sp : Nat → Sp
  ok : Nat → Bool
  con : Nat → Addr
  take : Sp
  snk : Snk
  sx : Addr × Value × Option Addr
  si : Nat → Nat → Sp
structure Dq where
  e : TE
  t : TT
  a : TA
  o : TO
def TE.no : TE := fun _ _ _ => False
def taOf (K : PySem.W.Frag) (te : TE) : TA := fun σ H Q => te σ H fun v H1 => ∃ a xs, v = .ref a ∧ SqT K H1 a xs ∧ Q xs H1
def toOf (te : TE) : TO := fun σ H Q => te σ H fun v H1 => (v = .non ∧ Q none H1) ∨ ∃ i, v = .int i ∧ Q (some i) H1
def Dn.of (κ : Dn) (te : TE) : Dq := ⟨te, tB te, taOf κ.K te, toOf te⟩
def Dn.wt (κ : Dn) (te : TE) (tt : TT) : Dq := ⟨te, tt, taOf κ.K te, toOf te⟩
def den2 (K : PySem.W.Frag) : Op2 → R2
  | .add => rAdd K
  | .sub => rI0 fun i j => .int (i - j)
  | .mul => rMul K
  | .div => rI CDivZ fun i j => .int (i.fdiv j)
  | .mod => rI (fun _ j => 0 < j) fun i j => .int (i % j)
  | .pow => rI CPow fun i j => .int (i ^ j.toNat)
  | .shl => rI CPow fun i j => .int (i * 2 ^ j.toNat)
  | .shr => rI (fun _ j => 0 ≤ j) fun i j => .int (i / 2 ^ j.toNat)
  | .and => rI0 fun i j => .int (Builtin.bitAnd i j)
  | .or => rI0 fun i j => .int (Builtin.bitOr i j)
  | .xor => rI0 fun i j => .int (Builtin.bitXor i j)
  | .lt => rI0 fun i j => .bl (decide (i < j))
  | .le => rI0 fun i j => .bl (decide (i ≤ j))
  | .gt => rI0 fun i j => .bl (decide (j < i))
  | .ge => rI0 fun i j => .bl (decide (j ≤ i))
  | .eq => rEqD K
  | .ne => rNeD K
  | .inn => rOr (rInD K) (rInT K)
  | .nin => rOr (rNotInD K) (rNotInT K)
  | .isB => fun x y H Q => ∃ a b, x = .bl a ∧ y = .bl b ∧ Q (.bl (decide (a = b))) H
  | .isnB => fun x y H Q => ∃ a b, x = .bl a ∧ y = .bl b ∧ Q (.bl (!decide (a = b))) H
  | .ix => rIx K
abbrev CRd := List V → Hp → VK → Prop
def crLen (K : PySem.W.Frag) : CRd := fun zs H Q => ∃ p ys, zs = [.ref p] ∧ (SqL K H p ys ∨ SqT K H p ys) ∧ Q (.int ys.length) H
def crAbs : CRd := fun zs H Q => ∃ i, zs = [.int i] ∧ Q (.int (if i < 0 then -i else i)) H
def crInt : CRd := fun zs H Q => (∃ i, zs = [.int i] ∧ Q (.int i) H) ∨ ∃ k, zs = [.bl k] ∧ Q (.int (if k then 1 else 0)) H
def crMin : CRd := fun zs H Q => ∃ i j, zs = [.int i, .int j] ∧ Q (.int (if j < i then j else i)) H
def crMinQ (K : PySem.W.Frag) : CRd := fun zs H Q => crMin zs H Q ∨ rMin2A K zs H Q
def crMax : CRd := fun zs H Q => ∃ i j, zs = [.int i, .int j] ∧ Q (.int (if j > i then j else i)) H
def crList (K : PySem.W.Frag) : CRd := fun zs H Q => ∃ p ys, zs = [.ref p] ∧ (SqL K H p ys ∨ SqT K H p ys) ∧ ∀ l, H l = none → Q (.ref l) (upd H l (.lst ys))
def crTup (K : PySem.W.Frag) : CRd := fun zs H Q => ∃ p ys, zs = [.ref p] ∧ ((SqL K H p ys ∧ ∀ l, H l = none → Q (.ref l) (upd H l (.tup ys))) ∨ (SqT K H p ys ∧ Q (.ref p) H))
def crGcd3 : CRd := fun zs H Q => ∃ i j k : Int, zs = [.int i, .int j, .int k] ∧ Q (.int ((Nat.gcd (Nat.gcd i.natAbs j.natAbs) k.natAbs : Nat) : Int)) H
def crLcm : CRd := fun zs H Q => ∃ i j : Int, zs = [.int i, .int j] ∧ (i.natAbs.log2 < 4000 ∧ j.natAbs.log2 < 4000) ∧ Q (.int ((Nat.lcm i.natAbs j.natAbs : Nat) : Int)) H
def rReprA (K : PySem.W.Frag) : CRd := fun xs H Q => ∃ (v : V) (d : PyData), xs = [v] ∧ Dp K H v d ∧ d.showable = true ∧ d.hasDict = false ∧ d.depth ≤ 60 ∧ d.shown.length ≤ sizeLine ∧ Q (.str d.shown) H
def denB (K : PySem.W.Frag) : Bi → CRd
  | .len => crLen K
  | .abs => crAbs
  | .int => crInt
  | .gcd2 => rGcd
  | .gcd3 => crGcd3
  | .lcm2 => crLcm
  | .min2 => crMinQ K
  | .min1 => rMinA K
  | .all1 => rAll K
  | .max2 => crMax
  | .sum => rSum K
  | .sorted => rSortC K
  | .list => crList K
  | .tuple => crTup K
  | .repr => rReprA K
  | .lzip => rLZ K
  | .max1 => rMax K
def denGp (K : PySem.W.Frag) : Tg → TG × TGs
  | .name i => ⟨gName i, gNil⟩
  | .tup t => ⟨gSeq K t.len (denGp K t).2, gNil⟩
  | .nil => ⟨gName 0, gNil⟩
  | .cons a b => ⟨gName 0, gCons (denGp K a).1 (denGp K b).2⟩
def denI (K : PySem.W.Frag) : ItK → Dq → TI
  | .seq, d => iSeq K d.e
  | .rng1, d => iRng1 d.a
  | .rng2, d => iRng2 d.a
  | .enum, d => iEnumQ K d.a
  | .zip, d => iZipQ K d.a
def den (κ : Dn) : EE → Dq
  | .var i => κ.of (tVar i)
  | .lit d => κ.of (match d with | .non => tC .non | .bl b => tC (.bl b) | .int i => tC (.int i) | .str x => tC (.str x) | _ => TE.no)
  | .con k => κ.of (tC (.ref (κ.con k)))
  | .fnv f => κ.of (tC (.ref (κ.K.fn f)))
  | .clv c => κ.of (tC (.ref (κ.K.cls c)))
  | .op o a b => κ.of (tOp (den2 κ.K o) (den κ a).e (den κ b).e)
  | .neg a => κ.of (tUn (rU fun i => .int (-i)) (den κ a).e)
  | .and a b => κ.wt (tAndV (den κ a).e (den κ b).e) (tAnd (den κ a).t (den κ b).t)
  | .or a b => κ.wt (tOrV (den κ a).e (den κ b).e) (tOr (den κ a).t (den κ b).t)
  | .not a => κ.wt (tNotV (den κ a).e) (tNot (den κ a).t)
  | .notT a => κ.of (tNotT κ.K (den κ a).e)
  | .isN a => κ.of (tIsN (den κ a).e)
  | .notN a => κ.of (tNotN (den κ a).e)
  | .tru a => κ.wt (tNotV (tNotT κ.K (den κ a).e)) (fun σ H Q => (den κ a).e σ H fun x H' => ∃ k, TruV κ.K x H' k ∧ Q k H')
  | .chain o o' a b c => κ.of (tChain (den2 κ.K o) (den2 κ.K o') (den κ a).e (den κ b).e (den κ c).e)
  | .ifx t a b => κ.of (tIf (den κ t).t (den κ a).e (den κ b).e)
  | .nil => { κ.of (tTup tNil) with a := tNil }
  | .cons a b => { κ.of (tTup (tCons (den κ a).e (den κ b).a)) with a := tCons (den κ a).e (den κ b).a }
  | .star a b => { κ.of (tTup (StX.tStar κ.K (den κ a).e (den κ b).a)) with a := StX.tStar κ.K (den κ a).e (den κ b).a }
  | .tup a => κ.of (tTup (den κ a).a)
  | .lst a => κ.of (tLst (den κ a).a)
  | .slc a lo hi => κ.of (tSl (rSlQ κ.K) (den κ a).e (den κ lo).o (den κ hi).o)
  | .bk0 a => κ.of (tBk κ.K (den κ a).e)
  | .nop => { κ.of (tC .non) with o := tNoPart }
  | .part a => { κ.of (den κ a).e with o := tPart (den κ a).e }
  | .call f sk dvs a => κ.of (tCallSD (κ.sp f) dvs (cond sk κ.snk.at Snk.no.at) (den κ a).a)
  | .newO k f sk a => κ.of (tMakeS (κ.K.cls k) (κ.si k f) (cond sk κ.snk.at Snk.no.at) (den κ a).a)
  | .callV i sk a => κ.of (tCallV κ.K.fn κ.ok κ.sp i (cond sk κ.snk.at Snk.no.at) (den κ a).a)
  | .take a => κ.of (tCall κ.take [] E0 (den κ a).a)
  | .bi b a => κ.of (tCB (denB κ.K b) (den κ a).a)
  | .isi a t => κ.of (tCB (rIsi κ.K) (tCons (den κ a).e (tCons (tC (.ty t.name)) tNil)))
  | .isi2 a t u => κ.of (tCB (rIsiT κ.K) (tCons (den κ a).e (tCons (tTup (tCons (tC (.ty t.name)) (tCons (tC (.ty u.name)) tNil))) tNil)))
  | .eqO n k f a b => κ.of (tOp (rOr (rOwn (κ.K.cls k) (κ.sp f) n) (den2 κ.K (cond n .ne .eq))) (den κ a).e (den κ b).e)
  | .isC a k => κ.of (tCB (rIsi κ.K) (tCons (den κ a).e (tCons (tC (.ref (κ.K.cls k))) tNil)))
  | .lc k it tg t e vs => κ.of (tLc (denI κ.K k (den κ it)) (denGp κ.K tg).1 (den κ t).t (den κ e).e vs)
  | .yes => κ.wt (tC (.bl true)) tYes
  | .eqR n a b => κ.of (tOp (cond n rNe rEq) (tCB (rReprA κ.K) (tCons (den κ a).e tNil)) (tCB (rReprA κ.K) (tCons (den κ b).e tNil)))
  | .xf i c f => κ.of (tXf κ.sx.1 κ.sx.2.1 κ.sx.2.2 (κ.K.cls c) f (tVar i))
  | .fld a f => κ.of (tFld κ.K (den κ a).e f)
  | .lenO i => κ.of (tCB (crLen κ.K) (tCons (tVar i) tNil))
  | .tupO i => κ.of (tCB (crTup κ.K) (tCons (tVar i) tNil))
  | .slcO i lo hi => κ.of (tSl (rSlQ κ.K) (tVar i) (den κ lo).o (den κ hi).o)
  | .idx a b => κ.of (tBM κ.K "list" (rIndexD κ.K) (den κ a).e (tCons (den κ b).e tNil))
  | .cmpO n i b => κ.of (tOp (den2 κ.K (cond n .ne .eq)) (tVar i) (den κ b).e)
  | .lend _ a => κ.of (den κ a).e
  | .lstO i => κ.of (tCB (crList κ.K) (tCons (tVar i) tNil))
  | .lc2 k it tg t k1 it1 tg1 t1 e vs vs1 => κ.of (tLc2 (denI κ.K k (den κ it)) (denGp κ.K tg).1 (den κ t).t (denI κ.K k1 (den κ it1)) (denGp κ.K tg1).1 (den κ t1).t (den κ e).e vs vs1)
  | .prp k f a => κ.of (tProp (κ.K.cls k) (κ.sp f) [] E0 (den κ a).e)
  | .ixO i a => κ.of (tOp (rIx κ.K) (tVar i) (den κ a).e)
def AbsV (K : KB) (sx : Addr × Value × Option Addr) : Sl → Sv → Prop
  | _, .unk => True
  | s, .dat d => s = .dat d
  | s, .own ds => ∃ p, s = .own p ds
  | s, .obj c ds => ∃ dx, s = .obj sx.1 dx c ds ∧ sx.2.2 = some dx
  | s, .exc c ds => ∃ dx, s = .dat (.exc sx.1 dx (K.cls c) (K.xf c) ds) ∧ sx.2.1 = .ref (K.cls c) ∧ sx.2.2 = some dx
def Abs (K : KB) (sx : Addr × Value × Option Addr) (q : List Sl) (ρ : Vars) : Prop := q.length = ρ.length ∧ ∀ (i : Nat) s v, q[i]? = some s → ρ[i]? = some v → AbsV K sx s v
section
variable {K : KB} {sx : Addr × Value × Option Addr} {q : List Sl} {ρ : Vars} {i : Nat} {d : D} {ds : List D}
theorem Abs.at (A : Abs K sx q ρ) {v : Sv} (h : ρ[i]? = some v) : ∃ s, q[i]? = some s ∧ AbsV K sx s v := by
  have hi : i < q.length := by rw [A.1]; exact (List.getElem?_eq_some_iff.mp h).1
  exact ⟨q[i], List.getElem?_eq_getElem hi, A.2 i _ v (List.getElem?_eq_getElem hi) h⟩
theorem Abs.dat (A : Abs K sx q ρ) (h : ρ[i]? = some (.dat d)) : q[i]? = some (.dat d) := by
  obtain ⟨s, e, v⟩ := A.at h
  cases (show s = .dat d from v); exact e
theorem Abs.own (A : Abs K sx q ρ) (h : ρ[i]? = some (.own ds)) : ∃ p, q[i]? = some (.own p ds) := by
  obtain ⟨s, e, p, rfl⟩ := A.at h
  exact ⟨p, e⟩
theorem Abs.set (A : Abs K sx q ρ) {s : Sl} {v : Sv} (h : AbsV K sx s v) : Abs K sx (q.set i s) (ρ.set i v) := by
  refine ⟨by rw [List.length_set, List.length_set, A.1], fun j s' v' e e' => ?_⟩
  rcases set_get e with ⟨a, b⟩ | ⟨a, b⟩
  · subst a; subst b
    rcases set_get e' with ⟨_, z⟩ | ⟨z, _⟩
    · subst z; exact h
    · exact absurd rfl z
  · rcases set_get e' with ⟨z, _⟩ | ⟨_, z⟩
    · exact absurd z a
    · exact A.2 j s' v' b z
theorem Abs.wipe (A : Abs K sx q ρ) : ∀ vs, Abs K sx (wipeS q vs) (wipeV ρ vs)
  | [] => A
  | v :: vs => (Abs.wipe A vs).set trivial
end
end Ez
set_option Elab.async false
set_option maxRecDepth 100000
set_option maxHeartbeats 4000000
set_option linter.all false
namespace Ez
open L2 PySem PyProof.Rows PySem.Spec
theorem stp_putP {W : Wd} {G0 H0 : Hp} : ∀ {as : List Addr} {r : List (V × V)} {G H : Hp}, Stp W G0 H0 G H → (∀ t ∈ as, H t = none) → as.Pairwise (· ≠ ·) → Stp W G0 H0 (putP G as r) (putP H as r)
  | [], r, G, H, S, _, _ => by cases r <;> exact S
  | t :: as, [], G, H, S, _, _ => S
  | t :: as, (x, y) :: r, G, H, S, h, nd => by
    obtain ⟨n1, n2⟩ := List.pairwise_cons.mp nd
    show Stp W G0 H0 (putP (upd G t (.tup [x, y])) as r) (putP (upd H t (.tup [x, y])) as r)
    exact stp_putP (S.lay (h t (by simp))) (fun u m => by rw [upd_ne (fun e => n1 u m e.symm)]; exact h u (List.mem_cons_of_mem _ m)) n2
theorem isl_zip {K : KT} {G : Hp} : ∀ {as : List Addr} {ds es : List D} {xs ys : List V}, IsL K G ds xs → IsL K G es ys → as.length = ds.length → ds.length = es.length → (∀ (j : Nat) (t : Addr), as[j]? = some t → ∃ x y, (xs.zip ys)[j]? = some (x, y) ∧ G t = some (.tup [x, y])) → IsL K G (zipL ds es) (as.map .ref)
  | [], [], es, xs, ys, _, _, _, h, _ => by
    cases es with
    | nil => exact rfl
    | cons _ _ => simp at h
  | [], _ :: _, _, _, _, _, _, h, _, _ => by simp at h
  | _ :: _, [], _, _, _, _, _, h, _, _ => by simp at h
  | t :: as, d :: ds, [], _, _, _, _, _, h, _ => by simp at h
  | t :: as, d :: ds, e :: es, xs, ys, h1, h2, l1, l2, k => by
    obtain ⟨x, xr, rfl, i1, r1⟩ := h1
    obtain ⟨y, yr, rfl, i2, r2⟩ := h2
    obtain ⟨x', y', e0, g0⟩ := k 0 t rfl
    have e1 : x' = x ∧ y' = y := by
      have e0 : some (x, y) = some (x', y') := e0
      cases e0
      exact ⟨rfl, rfl⟩
    obtain ⟨rfl, rfl⟩ := e1
    refine ⟨.ref t, as.map .ref, rfl, ⟨t, [x', y'], rfl, .inl g0, ⟨x', [y'], rfl, i1, ⟨y', [], rfl, i2, rfl⟩⟩⟩, ?_⟩
    exact isl_zip (xs := xr) (ys := yr) r1 r2 (by simpa using l1) (by simpa using l2) fun j u hu => k (j + 1) u (by simpa using hu)
theorem is_seqK {K : KT} {G H : Hp} {d : D} {ds : List D} {v : V} (sub : Ex G H) (e : seqL d = some ds) (i : Is K G d v) : ∃ p a xs, v = .ref a ∧ SqK K p H a xs ∧ IsL K G ds xs := by
  cases d with
  | tup l =>
    cases e
    obtain ⟨a, xs, rfl, h1, h2⟩ := i
    exact ⟨true, a, xs, rfl, h1.sq sub, h2⟩
  | lst l =>
    cases e
    obtain ⟨a, xs, rfl, h1, h2⟩ := i
    exact ⟨false, a, xs, rfl, h1.sq sub, h2⟩
  | _ => cases e
theorem cb_lzip {c : Cn} {P : D → Prop} {d e : D} {ds es : List D} (h1 : seqL d = some ds) (h2 : seqL e = some es) (le : ds.length = es.length) (lz : ds.length ≤ 10000) (k : P (.lst (zipL ds es))) : cbD c (rLZ c.K) [d, e] P := fun G H vs o a Q hq => by
  obtain ⟨v1, r, rfl, i1, r1⟩ := a
  obtain ⟨v2, r', rfl, i2, r2⟩ := r1
  cases (show r' = [] from r2)
  obtain ⟨p, a, xs, rfl, s1, l1⟩ := is_seqK o.sub h1 i1
  obtain ⟨q, b, ys, rfl, s2, l2⟩ := is_seqK o.sub h2 i2
  have n1 := IsL.len l1
  have n2 := IsL.len l2
  refine ⟨a, b, xs, ys, p, q, rfl, s1, s2, by omega, by rw [sizeLine_eq]; omega, fun l as hl fr fl nl nd => ?_⟩
  have S1 : Stp c.W G H (upd G l (.lst (as.map .ref))) (upd H l (.lst (as.map .ref))) := (Stp.refl o).lay fl
  have S2 := stp_putP (as := as) (r := xs.zip ys) S1 (fun t m => by rw [upd_ne (fun (z : t = l) => nl (z ▸ m))]; exact fr t m) nd
  refine hq _ _ _ _ k S2 ⟨l, as.map .ref, rfl, ?_, ?_⟩
  · show putP (upd G l (.lst (as.map .ref))) as (xs.zip ys) l = _
    rw [putP_off nl, upd_same]
  · refine isl_zip (IsL.mono S2.ex _ l1) (IsL.mono S2.ex _ l2) (by omega) le fun j t hj => ?_
    exact putP_at nd (by rw [List.length_zip]; omega) hj
end Ez
set_option Elab.async false
set_option linter.all false
set_option maxRecDepth 100000
namespace Ez
open L2 PySem PyProof.Rows PySem.Spec
open Tr
def hdC (c : Cn) : Prop := c.W = HandW c.K c.K.hand
def pmC (K : KT) (g : List D → R) : Pm where
  pre := fun W ds => (g ds).All (W = HandW K K.hand) (fun _ => True) (fun _ => True)
  post := fun ds r => (g ds).Ret r
  exn := fun ds C ns es => ∃ x, (g ds).Exn x ∧ C = K.cls x.c ∧ ns = K.xf x.c ∧ es = x.ds
/-- the promise of a def; of one that gives back a list of its own -/
def spF (K : KT) : Bool → Pm → Sp
  | false, p => spD K p
  | true, p => fun vs H Q E => ∃ W G ds, Ok W G H ∧ IsL K G ds vs ∧ p.pre W ds ∧
    (∀ G' H1 a xs es, p.post ds (.lst es) → Stp W G H G' H1 → H1 a = none → IsL K G' es xs → Q (.ref a) (upd H1 a (.lst xs))) ∧
    (∀ G' H' v l, p.post ds (.tup l) → Stp W G H G' H' → Is K G' (.tup l) v → Q v H') ∧
    (∀ G' H' C dx ns es xs, p.exn ds C ns es → Stp W G H G' H' → G' dx = some (.xd (ns.zip xs)) → ns.length = es.length → IsL K G' es xs → E (.ref C) (some dx) H')
theorem spF_of {K : KT} {fr : Bool} {p : Pm} {vs : List V} {H : Hp} {Q : VK} {E : XK} (h : spD K p vs H Q E) : spF K fr p vs H Q E := by
  cases fr with
  | false => exact h
  | true =>
    obtain ⟨W, G, ds, o, i, hp, hq, hx⟩ := h
    refine ⟨W, G, ds, o, i, hp, fun G' H1 a xs es h1 T hn il => ?_, fun G' H' v l h1 T il => hq G' H' v _ h1 T il, hx⟩
    exact hq (upd G' a (.lst xs)) _ _ _ h1 (T.lay hn) ⟨a, xs, rfl, upd_same, IsL.mono (Ex.new (none_of_sub T.ok.sub hn)) es il⟩
def pmTake (K : KT) : Pm := .f2 (fun W x y => ∃ p m, x = .adr p ∧ y = .int m ∧ 0 < m ∧ Bd 8000 m ∧ W = HandW K p) (fun _ y r => ∃ m v, y = .int m ∧ r = .int v ∧ 0 ≤ v ∧ v < m)
def SnkOk (c : Cn) (κ : Dn) (Z : Vars → Xn → Prop) : Prop :=
  ∀ q ρ G' H' s' dx xs x, Z ρ x → Abs c.K.toKB κ.sx q ρ → c.S G' H' → c.R G' H' s' q → G' dx = some (.xd ((c.K.xf x.c).zip xs)) → (c.K.xf x.c).length = x.ds.length → IsL c.K G' x.ds xs → κ.snk.at s' (.ref (c.K.cls x.c)) (some dx) H'
/-- what makes a thing of the class with this number -/
def spI (K : KT) (k : Nat) (p : Pm) : Sp := fun vs H Q E => ∃ (W : Wd) (G H1 : Hp) (x dx : Addr) (ds : List D) (ws : List V), vs = .ref x :: ws ∧ H1 x = none ∧ H1 dx = none ∧ dx ≠ x ∧ H = upd (upd H1 dx (.own x)) x (.ins (K.cls k) dx []) ∧
  Ok W G H1 ∧ IsL K G ds ws ∧ p.pre W ds ∧
  (∀ G' H' d, p.post ds d → Stp W G H1 G' H' → Is K G' d (.ref x) → Q .non H') ∧
  (∀ G' H' C dy ns es xs, p.exn ds C ns es → Stp W G H1 G' H' → G' dy = some (.xd (ns.zip xs)) → ns.length = es.length → IsL K G' es xs → E (.ref C) (some dy) H')
/-- what isinstance asks of the class of an own thing -/
structure InsT (K : PySem.W.Frag) (C : Addr) : Prop where
  cl : Cls K C
  ha : PySem.W.findIn K (.ref C) "__class__" = some (some (.builtin "object.__class__"))
  hn : PySem.W.specialIn K (.builtin "object.__class__") "__get__" = some (some (.builtin "getset_descriptor.__get__"))
  htk : PySem.W.takesIn K (.builtin "object.__class__") = some true
  hm : PySem.W.mroIn K C (.type "object") = some true
def tyns : List String := ["NoneType", "bool", "int", "str", "tuple", "list"]
theorem tyn_mem {d : D} {n : String} (h : D.tyn d = some n) : n ∈ tyns := by
  cases d <;> first | (cases h; done) | (cases h; decide)
theorem kit_self {K : PySem.W.Frag} {C : Addr} : PySem.W.kitOne K (.ref C) (.ref C) = some true := if_pos (beq_self_eq_true _)
theorem kit_own {K : PySem.W.Frag} {C : Addr} {t : Value} {b : Bool} (ne : (t == Value.ref C) = false) (h1 : PySem.W.isClsIn K C = true) (h2 : PySem.W.typeIn K (.ref C) = some (.type "type")) (h3 : PySem.W.subIn K t (.ref C) = some b) : PySem.W.kitOne K t (.ref C) = some b := by
  unfold PySem.W.kitOne
  rw [if_neg (by rw [ne]; decide)]
  show (if ((PySem.W.clsIn K C).isSome && PySem.W.typeIn K (.ref C) == some (.type "type")) = true then PySem.W.subIn K t (.ref C) else none) = some b
  have e : (PySem.W.clsIn K C).isSome = true := h1
  rw [e, h2, if_pos (by decide), h3]
theorem kit_bt {K : PySem.W.Frag} {C : Addr} {n : String} {b : Bool} (h1 : PySem.W.isClsIn K C = true) (h2 : PySem.W.typeIn K (.ref C) = some (.type "type")) (h3 : PySem.W.subIn K (.type n) (.ref C) = some b) : PySem.W.kitOne K (.type n) (.ref C) = some b := kit_own rfl h1 h2 h3
structure Sd (c : Cn) (κ : Dn) (Γ : Pgm) : Prop where
  eK : κ.K = c.K.toKB
  sp : ∀ f vs H Q E, spF c.K (Γ.fr f) (pmC c.K (Γ.call f)) vs H Q E → κ.sp f vs H Q E
  ok : κ.ok = Γ.ok
  con : ∀ k G, Is c.K G (Γ.con k) (.ref (κ.con k))
  xf : c.K.xf = Γ.xf
  take : ∀ vs H Q E, spD c.K (pmTake c.K) vs H Q E → κ.take vs H Q E
  fld : c.K.fld = Γ.fld
  cl : ∀ k, Γ.fld k ≠ [] → Cls c.K (c.K.cls k) ∧ (Γ.fld k).Nodup ∧ (Γ.fld k).length < 1000 ∧ ∀ f ∈ Γ.fld k, NoAttr c.K (c.K.cls k) f
  si : ∀ k f vs H Q E, spI c.K k (pmC c.K (Γ.call f)) vs H Q E → κ.si k f vs H Q E
  sub : ∀ a b r, Γ.sub a b = some r → PySem.W.exmOne c.K (.ref (c.K.cls a)) (.ref (c.K.cls b)) = some r
  isc : ∀ j k b, Γ.isc (some j) k = some b → InsT c.K (c.K.cls j) ∧ PySem.W.kitOne c.K (.ref (c.K.cls j)) (.ref (c.K.cls k)) = some b
  isn : ∀ k b, Γ.isc none k = some b → ∀ n ∈ tyns, PySem.W.kitOne c.K (.type n) (.ref (c.K.cls k)) = some b
section
variable {c : Cn} {q : List Sl} {ρ : Vars} {P : D → Prop} {Zx : Xn → Prop} {hd : Prop}
theorem cb_intB {b : Bool} (k : P (.int (if b then 1 else 0))) : cbD c (fun zs H Q => (∃ i, zs = [.int i] ∧ Q (.int i) H) ∨ ∃ k, zs = [.bl k] ∧ Q (.int (if k then 1 else 0)) H) [.bl b] P := fun G H vs o a Q hq => by
  obtain ⟨v, rfl, h⟩ := IsL.one_of a
  cases (show v = V.bl b from h)
  exact .inr ⟨b, rfl, hq G H _ _ k (Stp.refl o) rfl⟩
theorem odL {r r' : R2} {x y : D} (h : opD c r x y P) : opD c (rOr r r') x y P := fun G H vx vy o i j Q hq => .inl (h G H vx vy o i j Q hq)
theorem odR {r r' : R2} {x y : D} (h : opD c r' x y P) : opD c (rOr r r') x y P := fun G H vx vy o i j Q hq => .inr (h G H vx vy o i j Q hq)
theorem IsL.rep {K : KT} {G : Hp} {ds : List D} {xs : List V} (h : IsL K G ds xs) : ∀ n, IsL K G (List.replicate n ds).flatten (List.replicate n xs).flatten
  | 0 => rfl
  | n + 1 => by rw [List.replicate_succ, List.replicate_succ, List.flatten_cons, List.flatten_cons]; exact IsL.app h (IsL.rep h n)
theorem od_rep {ds : List D} {k : Int} (h : ds.length * k.toNat ≤ 100000 ∧ k ≤ 10000 ∧ -10000 ≤ k) (p : P (.lst (List.replicate k.toNat ds).flatten)) : opD c rRep (.lst ds) (.int k) P := fun G H vx vy o a b Q hq => by
  obtain ⟨l, xs, rfl, h1, h2⟩ := a
  cases (show vy = V.int k from b)
  refine ⟨l, k, xs, rfl, rfl, o.sub _ _ h1, by omega, by omega, by rw [IsL.len h2]; exact Nat.le_trans h.1 (by decide), fun n hn => ?_⟩
  exact hq _ _ _ _ p ((Stp.refl o).lay hn) ⟨n, _, rfl, upd_same, IsL.mono (Ex.new (none_of_sub o.sub hn)) _ (IsL.rep (K := c.K) h2 _)⟩
theorem od_repT {ds : List D} {k : Int} (h : 0 < ds.length ∧ ds.length ≤ 1000 ∧ 1 ≤ k ∧ k ≤ 1000) (p : P (.tup (List.replicate k.toNat ds).flatten)) : opD c (rOr (rRepT c.K) (rRep1 c.K)) (.tup ds) (.int k) P := fun G H vx vy o a b Q hq => by
  obtain ⟨l, xs, rfl, h1, h2⟩ := a
  cases (show vy = V.int k from b)
  have hl := IsL.len h2
  by_cases k1 : k = 1
  · subst k1
    have e : (List.replicate (1 : Int).toNat ds).flatten = ds := by simp
    rw [e] at p
    exact .inr ⟨l, xs, rfl, rfl, h1.sq o.sub, hq _ _ _ _ p (Stp.refl o) ⟨l, xs, rfl, h1, h2⟩⟩
  · refine .inl ⟨l, k, xs, rfl, rfl, h1.sq o.sub, fun e => ?_, by omega, h.2.2.2, by omega, fun n hn => ?_⟩
    · rw [e] at hl
      have : ds.length = 0 := by simpa using hl.symm
      omega
    · exact hq _ _ _ _ p ((Stp.refl o).lay hn) ⟨n, _, rfl, .inl upd_same, IsL.mono (Ex.new (none_of_sub o.sub hn)) _ (IsL.rep (K := c.K) h2 _)⟩
theorem any_py (x : PyData) : ∀ l : List D, ((D.pyL l).any fun z => PyData.eqv z x) = l.any fun z => PyData.eqv z.py x
  | [] => rfl
  | d :: r => by
    show (PyData.eqv d.py x || (D.pyL r).any fun z => PyData.eqv z x) = _
    rw [any_py x r]; rfl
theorem od_inL {x : D} {l : List D} (hx : D.cmp x = true) (hl : D.cmp (.lst l) = true) (k : P (.bl (l.any fun z => D.eqv z x))) : opD c (rInD c.K) x (.lst l) P := fun G H vx vy o i j Q hq =>
  ⟨x.py, D.pyL l, Is.dp o.sub x (Bool.and_eq_true_iff.mp hx).1 i, Is.dp o.sub (.lst l) (Bool.and_eq_true_iff.mp hl).1 j, D.shp hx, D.shp hl, by rw [any_py]; exact hq G H _ _ k (Stp.refl o) rfl⟩
theorem od_ninL {x : D} {l : List D} (hx : D.cmp x = true) (hl : D.cmp (.lst l) = true) (k : P (.bl (!l.any fun z => D.eqv z x))) : opD c (rNotInD c.K) x (.lst l) P := fun G H vx vy o i j Q hq =>
  ⟨x.py, D.pyL l, Is.dp o.sub x (Bool.and_eq_true_iff.mp hx).1 i, Is.dp o.sub (.lst l) (Bool.and_eq_true_iff.mp hl).1 j, D.shp hx, D.shp hl, by rw [any_py]; exact hq G H _ _ k (Stp.refl o) rfl⟩
theorem od_inT {x : D} {l : List D} (hx : D.cmp x = true) (hl : D.cmp (.tup l) = true) (k : P (.bl (l.any fun z => D.eqv z x))) : opD c (rInT c.K) x (.tup l) P := fun G H vx vy o i j Q hq =>
  ⟨x.py, D.pyL l, Is.dp o.sub x (Bool.and_eq_true_iff.mp hx).1 i, Is.dp o.sub (.tup l) (Bool.and_eq_true_iff.mp hl).1 j, D.shp hx, D.shp hl, by rw [any_py]; exact hq G H _ _ k (Stp.refl o) rfl⟩
theorem od_ninT {x : D} {l : List D} (hx : D.cmp x = true) (hl : D.cmp (.tup l) = true) (k : P (.bl (!l.any fun z => D.eqv z x))) : opD c (rNotInT c.K) x (.tup l) P := fun G H vx vy o i j Q hq =>
  ⟨x.py, D.pyL l, Is.dp o.sub x (Bool.and_eq_true_iff.mp hx).1 i, Is.dp o.sub (.tup l) (Bool.and_eq_true_iff.mp hl).1 j, D.shp hx, D.shp hl, by rw [any_py]; exact hq G H _ _ k (Stp.refl o) rfl⟩
theorem all_ite {α ε : Type} {P : α → Prop} {X : ε → Prop} {p : Prop} [Decidable p] {t : Tr ε α} (h : All hd P X (if p then t else bad)) : p ∧ All hd P X t := by
  by_cases e : p
  · rw [if_pos e] at h; exact ⟨e, h⟩
  · rw [if_neg e] at h; exact h.elim
theorem od2 {o : Op2} {x y : D} (h : All hd P Zx (op2 o x y)) : opD c (den2 c.K o) x y P := by
  cases o with
  | add =>
    have h : All hd P Zx (o2_add x y) := h
    unfold o2_add at h
    split at h
    · exact odL (od_i h)
    · obtain ⟨a, b⟩ := all_ite h; exact odR (odL (od_catL a b))
    · obtain ⟨a, b⟩ := all_ite h; exact odR (odR (od_catT a b))
    · exact h.elim
  | sub =>
    have h : All hd P Zx (o2_sub x y) := h
    unfold o2_sub at h
    split at h
    · exact od_i h
    · exact h.elim
  | mul =>
    have h : All hd P Zx (o2_mul x y) := h
    unfold o2_mul at h
    split at h
    · obtain ⟨a, b⟩ := all_ite h; exact odL (od_ci (show CMulW _ _ by unfold CMulW; omega) b)
    · obtain ⟨a, b⟩ := all_ite h; exact odR (odL (od_rep a b))
    · obtain ⟨a, b⟩ := all_ite h; exact odR (odR (od_repT a b))
    · exact h.elim
  | div =>
    have h : All hd P Zx (o2_div x y) := h
    unfold o2_div at h
    split at h
    · obtain ⟨a, b⟩ := all_ite h; exact od_ci a b
    · exact h.elim
  | mod =>
    have h : All hd P Zx (o2_mod x y) := h
    unfold o2_mod at h
    split at h
    · obtain ⟨a, b⟩ := all_ite h; exact od_ci a b
    · exact h.elim
  | pow =>
    have h : All hd P Zx (o2_pow x y) := h
    unfold o2_pow at h
    split at h
    · obtain ⟨a, b⟩ := all_ite h; exact od_ci a b
    · exact h.elim
  | shl =>
    have h : All hd P Zx (o2_shl x y) := h
    unfold o2_shl at h
    split at h
    · obtain ⟨a, b⟩ := all_ite h; exact od_ci a b
    · exact h.elim
  | shr =>
    have h : All hd P Zx (o2_shr x y) := h
    unfold o2_shr at h
    split at h
    · obtain ⟨a, b⟩ := all_ite h; exact od_ci a b
    · exact h.elim
  | and =>
    have h : All hd P Zx (o2_and x y) := h
    unfold o2_and at h
    split at h
    · exact od_i h
    · exact h.elim
  | or =>
    have h : All hd P Zx (o2_or x y) := h
    unfold o2_or at h
    split at h
    · exact od_i h
    · exact h.elim
  | xor =>
    have h : All hd P Zx (o2_xor x y) := h
    unfold o2_xor at h
    split at h
    · exact od_i h
    · exact h.elim
  | lt =>
    have h : All hd P Zx (o2_lt x y) := h
    unfold o2_lt at h
    split at h
    · exact od_b h
    · exact h.elim
  | le =>
    have h : All hd P Zx (o2_le x y) := h
    unfold o2_le at h
    split at h
    · exact od_b h
    · exact h.elim
  | gt =>
    have h : All hd P Zx (o2_gt x y) := h
    unfold o2_gt at h
    split at h
    · exact od_b h
    · exact h.elim
  | ge =>
    have h : All hd P Zx (o2_ge x y) := h
    unfold o2_ge at h
    split at h
    · exact od_b h
    · exact h.elim
  | eq =>
    have h : All hd P Zx (o2_eq x y) := h
    unfold o2_eq at h
    obtain ⟨a, b⟩ := all_ite h
    obtain ⟨a1, a2⟩ := Bool.and_eq_true_iff.mp a
    exact od_eq a1 a2 b
  | ne =>
    have h : All hd P Zx (o2_ne x y) := h
    unfold o2_ne at h
    obtain ⟨a, b⟩ := all_ite h
    obtain ⟨a1, a2⟩ := Bool.and_eq_true_iff.mp a
    exact od_ne a1 a2 b
  | inn =>
    have h : All hd P Zx (o2_inn x y) := h
    unfold o2_inn at h
    split at h
    · obtain ⟨a, b⟩ := all_ite h
      obtain ⟨a1, a2⟩ := Bool.and_eq_true_iff.mp a
      exact odL (od_inL a1 a2 b)
    · obtain ⟨a, b⟩ := all_ite h
      obtain ⟨a1, a2⟩ := Bool.and_eq_true_iff.mp a
      exact odR (od_inT a1 a2 b)
    · exact h.elim
  | nin =>
    have h : All hd P Zx (o2_nin x y) := h
    unfold o2_nin at h
    split at h
    · obtain ⟨a, b⟩ := all_ite h
      obtain ⟨a1, a2⟩ := Bool.and_eq_true_iff.mp a
      exact odL (od_ninL a1 a2 b)
    · obtain ⟨a, b⟩ := all_ite h
      obtain ⟨a1, a2⟩ := Bool.and_eq_true_iff.mp a
      exact odR (od_ninT a1 a2 b)
    · exact h.elim
  | isB =>
    have h : All hd P Zx (o2_isB x y) := h
    unfold o2_isB at h
    split at h
    · exact od_bb (f := fun a b => decide (a = b)) h
    · exact h.elim
  | isnB =>
    have h : All hd P Zx (o2_isnB x y) := h
    unfold o2_isnB at h
    split at h
    · exact od_bb (f := fun a b => !decide (a = b)) h
    · exact h.elim
  | ix =>
    have h : All hd P Zx (o2_ix x y) := h
    unfold o2_ix at h
    split at h
    · split at h
      · rename_i e; exact od_ixT e h
      · exact h.elim
    · split at h
      · rename_i e; exact od_ixL e h
      · exact h.elim
    · exact h.elim
theorem insI_perm (x : Int) : ∀ l, (insI x l).Perm (x :: l)
  | [] => .refl _
  | y :: r => by
    unfold insI
    split
    · exact .refl _
    · exact ((insI_perm x r).cons y).trans (.swap x y r)
theorem sortI_perm : ∀ l, (sortI l).Perm l
  | [] => .refl _
  | x :: r => (insI_perm x (sortI r)).trans ((sortI_perm r).cons x)
theorem insI_sorted (x : Int) : ∀ l : List Int, l.Pairwise (· ≤ ·) → (insI x l).Pairwise (· ≤ ·)
  | [], _ => List.pairwise_singleton _ _
  | y :: r, h => by
    unfold insI
    obtain ⟨h1, h2⟩ := List.pairwise_cons.mp h
    split
    · rename_i hxy
      refine List.pairwise_cons.mpr ⟨fun z hz => ?_, h⟩
      rcases List.mem_cons.mp hz with rfl | hz
      · exact hxy
      · exact Int.le_trans hxy (h1 z hz)
    · rename_i hxy
      refine List.pairwise_cons.mpr ⟨fun z hz => ?_, insI_sorted x r h2⟩
      rcases List.mem_cons.mp ((insI_perm x r).mem_iff.mp hz) with rfl | hz
      · omega
      · exact h1 z hz
theorem sortI_sorted : ∀ l : List Int, (sortI l).Pairwise (· ≤ ·)
  | [] => .nil
  | x :: r => insI_sorted x _ (sortI_sorted r)
theorem sorted_one : ∀ {l m : List Int}, l.Perm m → l.Pairwise (· ≤ ·) → m.Pairwise (· ≤ ·) → l = m
  | [], m, p, _, _ => by cases m with
    | nil => rfl
    | cons y r => exact absurd p.length_eq (by simp)
  | x :: l, [], p, _, _ => absurd p.length_eq (by simp)
  | x :: l, y :: m, p, h, k => by
    obtain ⟨h1, h2⟩ := List.pairwise_cons.mp h
    obtain ⟨k1, k2⟩ := List.pairwise_cons.mp k
    have e : x = y := by
      have a : x ≤ y := by
        rcases List.mem_cons.mp (p.mem_iff.mpr (List.mem_cons_self : y ∈ y :: m)) with z | z
        · exact Int.le_of_eq z.symm
        · exact h1 y z
      have b : y ≤ x := by
        rcases List.mem_cons.mp (p.mem_iff.mp (List.mem_cons_self : x ∈ x :: l)) with z | z
        · exact Int.le_of_eq z.symm
        · exact k1 x z
      omega
    subst e
    rw [sorted_one ((List.perm_cons x).mp p) h2 k2]
theorem intsOf_some : ∀ {l : List D} {ns : List Int}, intsOf l = some ns → l = ns.map D.int
  | [], ns, h => by cases h; rfl
  | d :: r, ns, h => by
    cases d with
    | int i =>
      unfold intsOf at h
      cases e : intsOf r with
      | none => rw [e] at h; cases h
      | some ms => rw [e] at h; cases h; rw [intsOf_some e]; rfl
    | _ => cases h
theorem IsL.ints {K : KT} {G : Hp} : ∀ {ns : List Int} {xs : List V}, IsL K G (ns.map D.int) xs → xs = ns.map V.int
  | [], _, h => h
  | n :: ns, _, ⟨x, r, e, h1, h2⟩ => by
    rw [e, IsL.ints h2]
    cases (show x = V.int n from h1); rfl
theorem cb_sum {ns : List Int} {P : D → Prop} (k : P (.int ns.sum)) : cbD c (rSum c.K) [.lst (ns.map D.int)] P := fun G H vs o a Q hq => by
  obtain ⟨v, rfl, p, xs, rfl, h1, h2⟩ := IsL.one_of a
  rw [IsL.ints h2] at h1
  exact ⟨p, ns, rfl, h1.sq o.sub, hq G H _ _ k (Stp.refl o) rfl⟩
theorem cb_sorted {ns : List Int} {P : D → Prop} (hl : ns.length < 64) (k : P (.lst ((sortI ns).map D.int))) : cbD c (rSortC c.K) [.lst (ns.map D.int)] P := fun G H vs o a Q hq => by
  obtain ⟨v, rfl, p, xs, rfl, h1, h2⟩ := IsL.one_of a
  rw [IsL.ints h2] at h1
  refine Or.inl (Or.inl ⟨p, ns, rfl, h1.sq o.sub, hl, fun ns' p' hp hs hn => ?_⟩)
  rw [sorted_one (hp.trans (sortI_perm ns).symm) hs (sortI_sorted ns)]
  exact hq _ _ _ _ k ((Stp.refl o).lay hn) ⟨p', _, rfl, upd_same, isInts _⟩
theorem cb_sortT {ns : List Int} {P : D → Prop} (hl : ns.length < 64) (k : P (.lst ((sortI ns).map D.int))) : cbD c (rSortC c.K) [.tup (ns.map D.int)] P := fun G H vs o a Q hq => by
  obtain ⟨v, rfl, p, xs, rfl, h1, h2⟩ := IsL.one_of a
  rw [IsL.ints h2] at h1
  refine Or.inr ⟨p, ns, rfl, h1.sq o.sub, hl, fun ns' p' hp hs hn => ?_⟩
  rw [sorted_one (hp.trans (sortI_perm ns).symm) hs (sortI_sorted ns)]
  exact hq _ _ _ _ k ((Stp.refl o).lay hn) ⟨p', _, rfl, upd_same, isInts _⟩
theorem lexI_eq : ∀ a b : List Int, lexI a b = HT.lexLt a b
  | [], [] => rfl
  | [], _ :: _ => rfl
  | _ :: _, [] => rfl
  | a :: l, b :: m => by
    rw [HT.lexLt_cons]
    show (bif decide (a = b) then lexI l m else decide (a < b)) = _
    by_cases e : a = b
    · rw [if_pos e, decide_eq_true e, ← lexI_eq l m]; rfl
    · rw [if_neg e, decide_eq_false e]; rfl
theorem lex_tot : ∀ {a b : List Int}, HT.lexLt a b = false → HT.lexLt b a = false → a = b
  | [], [], _, _ => rfl
  | [], _ :: _, h, _ => by cases h
  | _ :: _, [], _, h => by cases h
  | a :: l, b :: m, h, k => by
    rw [HT.lexLt_cons] at h k
    by_cases e : a = b
    · rw [if_pos e] at h
      rw [if_pos e.symm] at k
      rw [e, lex_tot h k]
    · rw [if_neg e] at h
      rw [if_neg (Ne.symm e)] at k
      have h' := of_decide_eq_false h
      have k' := of_decide_eq_false k
      omega
theorem insX_perm (x : List Int) : ∀ l, (insX x l).Perm (x :: l)
  | [] => .refl _
  | y :: r => by
    show (bif lexI y x then y :: insX x r else x :: y :: r).Perm _
    cases lexI y x
    · exact .refl _
    · exact ((insX_perm x r).cons y).trans (.swap x y r)
theorem sortX_perm : ∀ l, (sortX l).Perm l
  | [] => .refl _
  | x :: r => (insX_perm x (sortX r)).trans ((sortX_perm r).cons x)
theorem insX_srt (x : List Int) : ∀ l : List (List Int), SrtO.Srtd HT.lexLt l → SrtO.Srtd HT.lexLt (insX x l)
  | [], _ => List.pairwise_singleton _ _
  | y :: r, h => by
    obtain ⟨h1, h2⟩ := List.pairwise_cons.mp h
    show SrtO.Srtd HT.lexLt (bif lexI y x then y :: insX x r else x :: y :: r)
    rw [lexI_eq]
    cases e : HT.lexLt y x
    · refine List.pairwise_cons.mpr ⟨fun z hz => ?_, h⟩
      rcases List.mem_cons.mp hz with rfl | hz
      · exact e
      · exact NtL.lex_tr _ _ _ e (h1 z hz)
    · refine List.pairwise_cons.mpr ⟨fun z hz => ?_, insX_srt x r h2⟩
      rcases List.mem_cons.mp ((insX_perm x r).mem_iff.mp hz) with rfl | hz
      · exact NtL.lex_asym _ _ e
      · exact h1 z hz
theorem sortX_srt : ∀ l, SrtO.Srtd HT.lexLt (sortX l)
  | [] => .nil
  | x :: r => insX_srt x _ (sortX_srt r)
theorem srt_one : ∀ {l m : List (List Int)}, l.Perm m → SrtO.Srtd HT.lexLt l → SrtO.Srtd HT.lexLt m → l = m
  | [], m, p, _, _ => (List.Perm.eq_nil p.symm).symm
  | x :: l, [], p, _, _ => absurd p.length_eq (by simp)
  | x :: l, y :: m, p, h, k => by
    obtain ⟨h1, h2⟩ := List.pairwise_cons.mp h
    obtain ⟨k1, k2⟩ := List.pairwise_cons.mp k
    have z : ∀ u : List Int, HT.lexLt u u = false := fun u => (NtL.swo_lexL (fun v : List Int => v)).refl u
    have e1 : HT.lexLt y x = false := by
      rcases List.mem_cons.mp (p.mem_iff.mpr (List.mem_cons_self : y ∈ y :: m)) with q | q
      · rw [q]; exact z x
      · exact h1 y q
    have e2 : HT.lexLt x y = false := by
      rcases List.mem_cons.mp (p.mem_iff.mp (List.mem_cons_self : x ∈ x :: l)) with q | q
      · rw [q]; exact z y
      · exact k1 x q
    have e := lex_tot e1 e2
    subst e
    rw [srt_one ((List.perm_cons y).mp p) h2 k2]
theorem tupsOf_some : ∀ {l : List D} {ts : List (List Int)}, tupsOf l = some ts → l = ts.map tupI
  | [], ts, h => by cases h; rfl
  | d :: r, ts, h => by
    cases d with
    | tup m =>
      have h' : (match intsOf m with | some n => (tupsOf r).map (n :: ·) | none => none) = some ts := h
      cases e : intsOf m with
      | none => rw [e] at h'; cases h'
      | some n =>
        rw [e] at h'
        cases e2 : tupsOf r with
        | none => simp only [e2] at h'; cases h'
        | some ms => simp only [e2] at h'; cases h'; rw [tupsOf_some e2, intsOf_some e]; rfl
    | _ => cases h
theorem sameLen_of {ts : List (List Int)} (h : sameLen ts = true) : ∃ d, 1 ≤ d ∧ ∀ n ∈ ts, n.length = d := by
  cases ts with
  | nil => exact ⟨1, Nat.le_refl 1, fun n hn => absurd hn (by simp)⟩
  | cons x r =>
    obtain ⟨h1, h2⟩ := Bool.and_eq_true_iff.mp (show (decide (1 ≤ x.length) && r.all fun y => decide (y.length = x.length)) = true from h)
    refine ⟨x.length, of_decide_eq_true h1, fun n hn => ?_⟩
    rcases List.mem_cons.mp hn with rfl | hn
    · rfl
    · exact of_decide_eq_true (List.all_eq_true.mp h2 n hn)
theorem isF2 {K : KT} {G : Hp} : ∀ {ts : List (List Int)} {xs : List V}, (∃ d, ∀ n ∈ ts, n.length = d) → IsL K G (ts.map tupI) xs → ∀ d, (∀ n ∈ ts, n.length = d) → F2 (fun x n => Is K G (tupI n) x ∧ n.length = d) xs ts
  | [], _, _, h, _, _ => by cases (show _ = [] from h); trivial
  | n :: ts, _, _, ⟨x, r, e, h1, h2⟩, d, hd => by
    subst e
    exact ⟨⟨h1, hd n List.mem_cons_self⟩, isF2 ⟨d, fun m hm => hd m (List.mem_cons_of_mem _ hm)⟩ h2 d fun m hm => hd m (List.mem_cons_of_mem _ hm)⟩
theorem f2Is {K : KT} {G : Hp} {d : Nat} : ∀ {ts : List (List Int)} {xs : List V}, F2 (fun x n => Is K G (tupI n) x ∧ n.length = d) xs ts → IsL K G (ts.map tupI) xs
  | [], [], _ => rfl
  | [], _ :: _, h => h.elim
  | _ :: _, [], h => h.elim
  | _ :: _, x :: r, ⟨h1, h2⟩ => ⟨x, r, rfl, h1.1, f2Is h2⟩
theorem cb_sortX {ts : List (List Int)} {P : D → Prop} (hl : sameLen ts = true) (k : P (.lst ((sortX ts).map tupI))) : cbD c (rSortC c.K) [.lst (ts.map tupI)] P := fun G H vs o a Q hq => by
  obtain ⟨v, rfl, p, xs, rfl, h1, h2⟩ := IsL.one_of a
  obtain ⟨d, d1, hd⟩ := sameLen_of hl
  refine Or.inl (Or.inr ⟨p, xs, ts, fun x n => Is c.K G (tupI n) x ∧ n.length = d, d, rfl, h1.sq o.sub, d1, fun x n r => ⟨?_, r.2⟩, isF2 ⟨d, hd⟩ h2 d hd, fun ys ms p' hp hs hf hn => ?_⟩)
  · obtain ⟨t, zs, e, g1, g2⟩ := r.1
    rw [IsL.ints g2] at g1
    exact ⟨t, e, g1.sq o.sub⟩
  rw [srt_one (hp.trans (sortX_perm ts).symm) hs (sortX_srt ts)] at hf
  exact hq _ _ _ _ k ((Stp.refl o).lay hn) ⟨p', _, rfl, upd_same, IsL.mono (Ex.new (none_of_sub o.sub hn)) _ (f2Is hf)⟩
mutual
theorem D.same_eq : ∀ {x y : D}, D.same x y = true → x = y
  | .non, .non, _ => rfl
  | .bl a, .bl b, h => by rw [eq_of_beq (show (a == b) = true from h)]
  | .int a, .int b, h => by rw [of_decide_eq_true (show decide (a = b) = true from h)]
  | .str a, .str b, h => by rw [of_decide_eq_true (show decide (a = b) = true from h)]
  | .tup a, .tup b, h => by rw [D.sameL_eq (show D.sameL a b = true from h)]
  | .lst a, .lst b, h => by rw [D.sameL_eq (show D.sameL a b = true from h)]
theorem D.sameL_eq : ∀ {x y : List D}, D.sameL x y = true → x = y
  | [], [], _ => rfl
  | a :: r, b :: s, h => by
    obtain ⟨h1, h2⟩ := Bool.and_eq_true_iff.mp (show (D.same a b && D.sameL r s) = true from h)
    rw [D.same_eq h1, D.sameL_eq h2]
end
theorem cb_repr {x : D} {P : D → Prop} (h : D.repOk x = true) (k : P (.str (D.text x))) : cbD c (rReprA c.K) [x] P := fun G H vs o a Q hq => by
  obtain ⟨h, h3⟩ := Bool.and_eq_true_iff.mp h
  obtain ⟨h1, h2⟩ := Bool.and_eq_true_iff.mp h
  obtain ⟨s1, s2, s3⟩ := D.shown_of _ h1
  obtain ⟨v, rfl, i⟩ := IsL.one_of a
  exact ⟨v, _, rfl, Is.dp o.sub x s2 i, s1, PyData.hasDict_of_canLay _ (D.lay _ s2), by rw [D.deq]; exact of_decide_eq_true h2, Nat.le_trans s3 (Nat.le_trans (of_decide_eq_true h3) (by decide)), hq _ _ _ _ k (Stp.refl o) rfl⟩
theorem mayMin_of {x : D} {r : List D} (h : mayMin x r = true) : D.like x x = true ∧ (∀ y ∈ r, D.like x y = true) ∧ D.dep x ≤ 60 := by
  obtain ⟨h, h3⟩ := Bool.and_eq_true_iff.mp h
  obtain ⟨h1, h2⟩ := Bool.and_eq_true_iff.mp h
  exact ⟨h1, fun y hy => List.all_eq_true.mp h2 y hy, of_decide_eq_true h3⟩
theorem like_all {x : D} {r : List D} (h : D.like x x = true ∧ (∀ y ∈ r, D.like x y = true) ∧ D.dep x ≤ 60) : ∀ y ∈ x :: r, D.like x y = true := fun y hy => by
  rcases List.mem_cons.mp hy with rfl | hy
  · exact h.1
  · exact h.2.1 y hy
theorem purL_of : ∀ {l : List D} {x : D}, (∀ y ∈ l, D.like x y = true) → D.purL l = true
  | [], _, _ => rfl
  | y :: l, x, h => Bool.and_eq_true_iff.mpr ⟨(like_ok (h y List.mem_cons_self)).1, purL_of fun z hz => h z (List.mem_cons_of_mem _ hz)⟩
theorem depL_of : ∀ {l : List D} {x : D}, (∀ y ∈ l, D.like x y = true) → D.dep x ≤ 60 → PyData.depthAll (D.pyL l) ≤ 61
  | [], _, _, _ => Nat.zero_le _
  | y :: l, x, h, k => by
    change max y.py.depth (PyData.depthAll (D.pyL l)) ≤ 61
    have a := (like_ok (h y List.mem_cons_self)).2.1
    have b := depL_of (l := l) (fun z hz => h z (List.mem_cons_of_mem _ hz)) k
    rw [D.deq, a]
    omega
theorem alikes {l : List D} {x : D} (h : ∀ y ∈ l, D.like x y = true) : PySem.W.AlikeAll (D.pyL l) := by
  refine ⟨fun u hu v hv => ?_, fun u hu => ?_⟩
  · obtain ⟨a, ha, rfl⟩ := mem_pyL hu
    obtain ⟨b, hb, rfl⟩ := mem_pyL hv
    exact like_alike (like_trans (h a ha) (h b hb))
  · obtain ⟨a, ha, rfl⟩ := mem_pyL hu
    exact (like_ok (h a ha)).2.2.1
theorem cb_minA {x : D} {r : List D} {d : D} (hd : d = .lst (x :: r) ∨ d = .tup (x :: r)) (h : mayMin x r = true) {P : D → Prop} (k : P (minDD x r)) : cbD c (rMinA c.K) [d] P := fun G H vs o a Q hq => by
  have hm := mayMin_of h
  have la := like_all hm
  obtain ⟨e1, e2, e3⟩ := minDD_spec r x hm.2.1 hm.1
  obtain ⟨v, rfl, i⟩ := IsL.one_of a
  have fin : ∀ {xs : List V}, IsL c.K G (x :: r) xs → ∀ (i : Nat) m, xs[i]? = some m → (x.py :: D.pyL r)[i]? = some (PySem.W.minD x.py (D.pyL r)) → Q m H := fun {xs} h2 i m hx he => by
    obtain ⟨d', f1, f2⟩ := IsL.back h2 hx
    have f3 : (D.pyL (x :: r))[i]? = some d'.py := by rw [pyL_get, f1]; rfl
    have f4 : d'.py = (minDD x r).py := by
      rw [e1]; exact Option.some.inj (f3.symm.trans he)
    have f5 : d' = minDD x r := like_inj (like_trans (la d' (List.mem_of_getElem? f1)) (la _ e3)) f4
    exact hq G H _ _ k (Stp.refl o) (f5 ▸ f2)
  rcases hd with rfl | rfl
  · obtain ⟨p, xs, rfl, h1, h2⟩ := i
    exact ⟨p, xs, x.py, D.pyL r, rfl, .inl (h1.sq o.sub), IsL.dp o.sub (x :: r) (purL_of la) h2, alikes la, depL_of la hm.2.2, fin h2⟩
  · obtain ⟨p, xs, rfl, h1, h2⟩ := i
    exact ⟨p, xs, x.py, D.pyL r, rfl, .inr (h1.sq o.sub), IsL.dp o.sub (x :: r) (purL_of la) h2, alikes la, depL_of la hm.2.2, fin h2⟩
theorem cb_min2A {x y : D} (h : mayMin x [y] = true) {P : D → Prop} (k : P (minDD x [y])) : cbD c (crMinQ c.K) [x, y] P := fun G H vs o a Q hq => by
  have hm := mayMin_of h
  have la := like_all hm
  obtain ⟨v, w, rfl, i, j⟩ := IsL.two_of a
  have ly := hm.2.1 y List.mem_cons_self
  refine .inr ⟨v, w, x.py, y.py, rfl, Is.dp o.sub x (like_ok hm.1).1 i, Is.dp o.sub y (like_ok ly).1 j, alikes (l := [x, y]) la, depL_of (l := [x, y]) la hm.2.2, ?_⟩
  rw [dataLt_like (like_trans ly hm.1)]
  have e : minDD x [y] = bif lexI y.flat x.flat then y else x := rfl
  rw [e] at k
  cases q : lexI y.flat x.flat
  · rw [q, cond_false] at k
    rw [if_neg (by decide)]
    exact hq G H _ _ k (Stp.refl o) i
  · rw [q, cond_true] at k
    rw [if_pos rfl]
    exact hq G H _ _ k (Stp.refl o) j
theorem boolsOf_some : ∀ {l : List D} {bs : List Bool}, boolsOf l = some bs → l = bs.map D.bl
  | [], bs, h => by cases h; rfl
  | d :: r, bs, h => by
    cases d with
    | bl i =>
      unfold boolsOf at h
      cases e : boolsOf r with
      | none => rw [e] at h; cases h
      | some ms => rw [e] at h; cases h; rw [boolsOf_some e]; rfl
    | _ => cases h
theorem IsL.bools {K : KT} {G : Hp} : ∀ {bs : List Bool} {xs : List V}, IsL K G (bs.map D.bl) xs → xs = bs.map V.bl
  | [], _, h => h
  | n :: ns, _, ⟨x, r, e, h1, h2⟩ => by
    rw [e, IsL.bools h2]
    cases (show x = V.bl n from h1); rfl
theorem cb_all {bs : List Bool} {P : D → Prop} (k : P (.bl (bs.all id))) : cbD c (rAll c.K) [.lst (bs.map D.bl)] P := fun G H vs o a Q hq => by
  obtain ⟨v, rfl, p, xs, rfl, h1, h2⟩ := IsL.one_of a
  rw [IsL.bools h2] at h1
  exact ⟨p, bs, rfl, h1.sq o.sub, hq G H _ _ k (Stp.refl o) rfl⟩
theorem foldl_max : ∀ (r : List Int) (i : Int), r.foldl max i ∈ i :: r ∧ ∀ y ∈ i :: r, y ≤ r.foldl max i
  | [], i => ⟨by simp, fun y m => by simp at m; rw [m]; exact Int.le_refl _⟩
  | x :: r, i => by
    obtain ⟨h1, h2⟩ := foldl_max r (max i x)
    rw [List.foldl_cons]
    refine ⟨?_, fun y m => ?_⟩
    · rcases List.mem_cons.mp h1 with q | q
      · rw [q]
        by_cases c : i ≤ x
        · rw [Int.max_eq_right c]; simp
        · rw [Int.max_eq_left (by omega)]; simp
      · exact List.mem_cons_of_mem _ (List.mem_cons_of_mem _ q)
    · have h0 := h2 (max i x) (by simp)
      rcases List.mem_cons.mp m with q | q
      · rw [q]; exact Int.le_trans (Int.le_max_left ..) h0
      · rcases List.mem_cons.mp q with q | q
        · rw [q]; exact Int.le_trans (Int.le_max_right ..) h0
        · exact h2 y (List.mem_cons_of_mem _ q)
theorem cb_max1 {i : Int} {r : List Int} (k : P (.int (r.foldl max i))) : cbD c (L2.rMax c.K) [.lst ((i :: r).map D.int)] P := fun G H vs o a Q hq => by
  obtain ⟨v, rfl, p, xs, rfl, h1, h2⟩ := IsL.one_of a
  cases IsL.ints h2
  obtain ⟨m1, m2⟩ := foldl_max r i
  refine ⟨p, i :: r, rfl, h1.sq o.sub, by simp, fun m hm hle => ?_⟩
  have e : m = r.foldl max i := Int.le_antisymm (m2 m hm) (hle _ m1)
  rw [e]
  exact hq G H _ _ k (Stp.refl o) rfl
theorem cbB {b : Bi} {xs : List D} (h : All hd P Zx (biD b xs)) : cbD c (denB c.K b) xs P := by
  cases b with
  | len =>
    have h : All hd P Zx (bi_lenD xs) := h
    unfold bi_lenD at h
    split at h
    · exact cb_lenL h
    · exact cb_lenT h
    · exact cb_lenS h
    · exact h.elim
  | abs =>
    have h : All hd P Zx (bi_absD xs) := h
    unfold bi_absD at h
    split at h
    · exact cb_abs h
    · exact h.elim
  | int =>
    have h : All hd P Zx (bi_intD xs) := h
    unfold bi_intD at h
    split at h
    · exact cb_int h
    · exact cb_intB h
    · exact h.elim
  | gcd2 =>
    have h : All hd P Zx (bi_gcd2D xs) := h
    unfold bi_gcd2D at h
    split at h
    · exact cb_gcd h
    · exact h.elim
  | gcd3 =>
    have h : All hd P Zx (bi_gcd3D xs) := h
    unfold bi_gcd3D at h
    split at h
    · rename_i i j k _
      intro G H vs o a Q hq
      obtain ⟨v, r, rfl, h1, h2⟩ := a
      obtain ⟨u, w, rfl, h3, h4⟩ := IsL.two_of h2
      cases (show v = V.int i from h1); cases (show u = V.int j from h3); cases (show w = V.int k from h4)
      exact ⟨i, j, k, rfl, hq G H _ _ h (Stp.refl o) rfl⟩
    · exact h.elim
  | lcm2 =>
    have h : All hd P Zx (bi_lcm2D xs) := h
    unfold bi_lcm2D at h
    split at h
    · rename_i i j _
      obtain ⟨b, h⟩ := all_ite h
      intro G H vs o a Q hq
      obtain ⟨v, u, rfl, h1, h2⟩ := IsL.two_of a
      cases (show v = V.int i from h1); cases (show u = V.int j from h2)
      exact ⟨i, j, rfl, b, hq G H _ _ h (Stp.refl o) rfl⟩
    · exact h.elim
  | min2 =>
    have h : All hd P Zx (bi_min2D xs) := h
    unfold bi_min2D at h
    split at h
    · intro G H vs o a Q hq
      exact .inl (cb_min h G H vs o a Q hq)
    · obtain ⟨h1, h2⟩ := all_ite h
      exact cb_min2A h1 h2
    · exact h.elim
  | min1 =>
    have h : All hd P Zx (bi_min1D xs) := h
    unfold bi_min1D at h
    split at h
    · obtain ⟨h1, h2⟩ := all_ite h
      exact cb_minA (.inl rfl) h1 h2
    · obtain ⟨h1, h2⟩ := all_ite h
      exact cb_minA (.inr rfl) h1 h2
    · exact h.elim
  | all1 =>
    have h : All hd P Zx (bi_all1D xs) := h
    unfold bi_all1D at h
    split at h
    · split at h
      · rename_i bs e
        rw [boolsOf_some e]
        exact cb_all h
      · exact h.elim
    · exact h.elim
  | max2 =>
    have h : All hd P Zx (bi_max2D xs) := h
    unfold bi_max2D at h
    split at h
    · exact cb_max h
    · exact h.elim
  | list =>
    have h : All hd P Zx (bi_listD xs) := h
    unfold bi_listD at h
    split at h
    · exact cb_listT h
    · exact cb_listL h
    · exact h.elim
  | tuple =>
    have h : All hd P Zx (bi_tupleD xs) := h
    unfold bi_tupleD at h
    split at h
    · exact cb_tupT h
    · exact cb_tupL h
    · exact h.elim
  | sorted =>
    have h : All hd P Zx (bi_sortedD xs) := h
    unfold bi_sortedD at h
    split at h
    · split at h
      · rename_i ns e
        obtain ⟨h1, h2⟩ := all_ite h
        rw [intsOf_some e]
        exact cb_sorted h1 h2
      · split at h
        · rename_i ts e
          obtain ⟨h1, h2⟩ := all_ite h
          rw [tupsOf_some e]
          exact cb_sortX h1 h2
        · exact h.elim
    · split at h
      · rename_i ns e
        obtain ⟨h1, h2⟩ := all_ite h
        rw [intsOf_some e]
        exact cb_sortT h1 h2
      · exact h.elim
    · exact h.elim
  | repr =>
    have h : All hd P Zx (bi_reprD xs) := h
    unfold bi_reprD at h
    split at h
    · obtain ⟨h1, h2⟩ := all_ite h
      exact cb_repr h1 h2
    · exact h.elim
  | lzip =>
    have h : All hd P Zx (bi_lzipD xs) := h
    unfold bi_lzipD at h
    split at h
    · split at h
      · rename_i e1 e2
        obtain ⟨⟨h1, h2⟩, h3⟩ := all_ite h
        exact cb_lzip e1 e2 h1 h2 h3
      · exact h.elim
    · exact h.elim
  | max1 =>
    have h : All hd P Zx (bi_max1D xs) := h
    unfold bi_max1D at h
    split at h
    · split at h
      · rename_i e
        rw [intsOf_some e]
        exact cb_max1 h
      · exact h.elim
    · exact h.elim
  | sum =>
    have h : All hd P Zx (bi_sumD xs) := h
    unfold bi_sumD at h
    split at h
    · split at h
      · rename_i ns e
        rw [intsOf_some e]
        exact cb_sum h
      · exact h.elim
    · exact h.elim
theorem cb_isN {d : D} {k : Nat} {n : String} {b : Bool} (ht : D.tyn d = some n) (hk : PySem.W.kitOne c.K (.type n) (.ref (c.K.cls k)) = some b) (hp : P (.bl b)) : cbD c (rIsi c.K) [d, .cls k] P := fun G H vs o a Q hq => by
  obtain ⟨v, w, rfl, h, h'⟩ := IsL.two_of a
  cases (show w = V.ref (c.K.cls k) from h')
  exact ⟨v, _, _, _, b, rfl, .own _, Is.ty o.sub ht h, hk, hq G H _ _ hp (Stp.refl o) rfl⟩
theorem cb_isC {j k : Nat} {ds : List D} {b : Bool} (hi : InsT c.K (c.K.cls j)) (hk : PySem.W.kitOne c.K (.ref (c.K.cls j)) (.ref (c.K.cls k)) = some b) (hp : P (.bl b)) : cbD c (rIsi c.K) [.ins j ds, .cls k] P := fun G H vs o a Q hq => by
  obtain ⟨v, w, rfl, h, h'⟩ := IsL.two_of a
  cases (show w = V.ref (c.K.cls k) from h')
  obtain ⟨p, dx, xs, rfl, e1, e2, e3⟩ := h
  exact ⟨_, _, _, _, b, rfl, .own _, .base (.ins (o.sub _ _ e1) hi.cl hi.ha hi.hn hi.htk hi.hm), hk, hq G H _ _ hp (Stp.refl o) rfl⟩
theorem isi_of {d : D} {t : BT} {b : Bool} (h : isiD d t = some b) : ∃ n, D.tyn d = some n ∧ kitB n t.name = some b := by
  cases d <;> cases t <;> first
    | (cases h; done)
    | (cases h; exact ⟨_, rfl, kit_NoneType_int⟩) | (cases h; exact ⟨_, rfl, kit_NoneType_bool⟩) | (cases h; exact ⟨_, rfl, kit_NoneType_str⟩) | (cases h; exact ⟨_, rfl, kit_NoneType_tuple⟩) | (cases h; exact ⟨_, rfl, kit_NoneType_list⟩)
    | (cases h; exact ⟨_, rfl, kit_bool_int⟩) | (cases h; exact ⟨_, rfl, kit_bool_bool⟩) | (cases h; exact ⟨_, rfl, kit_bool_str⟩) | (cases h; exact ⟨_, rfl, kit_bool_tuple⟩) | (cases h; exact ⟨_, rfl, kit_bool_list⟩)
    | (cases h; exact ⟨_, rfl, kit_int_int⟩) | (cases h; exact ⟨_, rfl, kit_int_bool⟩) | (cases h; exact ⟨_, rfl, kit_int_str⟩) | (cases h; exact ⟨_, rfl, kit_int_tuple⟩) | (cases h; exact ⟨_, rfl, kit_int_list⟩)
    | (cases h; exact ⟨_, rfl, kit_str_int⟩) | (cases h; exact ⟨_, rfl, kit_str_bool⟩) | (cases h; exact ⟨_, rfl, kit_str_str⟩) | (cases h; exact ⟨_, rfl, kit_str_tuple⟩) | (cases h; exact ⟨_, rfl, kit_str_list⟩)
    | (cases h; exact ⟨_, rfl, kit_tuple_int⟩) | (cases h; exact ⟨_, rfl, kit_tuple_bool⟩) | (cases h; exact ⟨_, rfl, kit_tuple_str⟩) | (cases h; exact ⟨_, rfl, kit_tuple_tuple⟩) | (cases h; exact ⟨_, rfl, kit_tuple_list⟩)
    | (cases h; exact ⟨_, rfl, kit_list_int⟩) | (cases h; exact ⟨_, rfl, kit_list_bool⟩) | (cases h; exact ⟨_, rfl, kit_list_str⟩) | (cases h; exact ⟨_, rfl, kit_list_tuple⟩) | (cases h; exact ⟨_, rfl, kit_list_list⟩)
theorem sndGw {vs : List Nat} {K : KB} (eK : K = c.K.toKB) : ∀ (tg : Tg), tg.inn vs = true → ∀ (ρ ρ' : Vars) (q : List Sl) (N : List Sl → Prop) (sx : Addr × Value × Option Addr), Abs c.K.toKB sx q ρ → (∀ q', Abs c.K.toKB sx q' ρ' → N q') →
    (∀ d, evalG false tg d ρ = some ρ' → wpW c (denGp K tg).1 vs d q N) ∧ (∀ ds, evalG true tg (.tup ds) ρ = some ρ' → wpWs c (denGp K tg).2 vs ds q N)
  | .name i, hi, ρ, ρ', q, N, sx, A, hN => by
      refine ⟨fun d e => ?_, fun ds e => by cases e⟩
      unfold evalG at e
      split at e
      · rename_i hl
        cases e
        exact ww_name (by simpa [Tg.inn] using hi) (by rw [A.1]; exact hl) (hN _ (A.set rfl))
      · cases e
  | .tup t, hi, ρ, ρ', q, N, sx, A, hN => by
      refine ⟨fun d e => ?_, fun ds e => by cases e⟩
      have ih := sndGw eK t hi ρ ρ' q N sx A hN
      cases d with
      | tup l =>
        unfold evalG at e
        split at e
        · rename_i hl
          intro G H s v S R hv Q hq
          subst eK
          exact .inl (ww_tup hl (ih.2 l e) G H s v S R hv Q hq)
        · cases e
      | lst l =>
        unfold evalG at e
        split at e
        · rename_i hl
          intro G H s v S R hv Q hq
          subst eK
          exact .inr (ww_lst hl (ih.2 l e) G H s v S R hv Q hq)
        · cases e
      | _ => cases e
  | .nil, hi, ρ, ρ', q, N, sx, A, hN => by
      refine ⟨fun d e => (by cases d <;> cases e), fun ds e => ?_⟩
      cases ds with
      | nil => cases e; exact ww_nil (hN _ A)
      | cons x xs => cases e
  | .cons a b, hi, ρ, ρ', q, N, sx, A, hN => by
      refine ⟨fun d e => (by cases d <;> cases e), fun ds e => ?_⟩
      cases ds with
      | nil => cases e
      | cons x xs =>
        unfold evalG at e
        obtain ⟨ha, hb⟩ := Bool.and_eq_true_iff.mp (show (a.inn vs && b.inn vs) = true from hi)
        split at e
        · rename_i ρ1 h1
          exact ww_cons ((sndGw eK a ha ρ ρ1 q _ sx A fun q' A' => (sndGw eK b hb ρ1 ρ' q' N sx A' hN).2 xs e).1 x h1)
        · cases e
/-- no own list, no thing that is being made has come to the slots -/
def OwnS (q q2 : List Sl) : Prop := (∀ (i : Nat) p ds, q2[i]? = some (Sl.own p ds) → ∃ i' : Nat, q[i']? = some (Sl.own p ds)) ∧ ∀ p dx k ds, q2[0]? = some (Sl.obj p dx k ds) → q[0]? = some (Sl.obj p dx k ds)
theorem OwnS.refl (q : List Sl) : OwnS q q := ⟨fun i _ _ h => ⟨i, h⟩, fun _ _ _ _ h => h⟩
theorem OwnS.trans {q q1 q2 : List Sl} (a : OwnS q q1) (b : OwnS q1 q2) : OwnS q q2 := ⟨fun i p ds h => let ⟨j, z⟩ := b.1 i p ds h; a.1 j p ds z, fun p dx k ds h => a.2 p dx k ds (b.2 p dx k ds h)⟩
theorem OwnS.set (q : List Sl) (j : Nat) (d : D) : OwnS q (q.set j (.dat d)) := ⟨fun i p ds h => (set_get h).elim (fun z => by cases z.2) fun z => ⟨i, z.2⟩, fun p dx k ds h => (set_get h).elim (fun z => by cases z.2) fun z => z.2⟩
theorem OwnS.wipe (q : List Sl) : ∀ vs, OwnS q (wipeS q vs)
  | [] => .refl q
  | v :: vs => (OwnS.wipe q vs).trans ⟨fun i p ds h => (set_get h).elim (fun z => by cases z.2) fun z => ⟨i, z.2⟩, fun p dx k ds h => (set_get h).elim (fun z => by cases z.2) fun z => z.2⟩
theorem sndGwO {vs : List Nat} {K : KB} (eK : K = c.K.toKB) : ∀ (tg : Tg), tg.inn vs = true → ∀ (ρ ρ' : Vars) (q : List Sl) (N : List Sl → Prop) (sx : Addr × Value × Option Addr), Abs c.K.toKB sx q ρ → (∀ q', Abs c.K.toKB sx q' ρ' → OwnS q q' → N q') →
    (∀ d, evalG false tg d ρ = some ρ' → wpW c (denGp K tg).1 vs d q N) ∧ (∀ ds, evalG true tg (.tup ds) ρ = some ρ' → wpWs c (denGp K tg).2 vs ds q N)
  | .name i, hi, ρ, ρ', q, N, sx, A, hN => by
      refine ⟨fun d e => ?_, fun ds e => by cases e⟩
      unfold evalG at e
      split at e
      · rename_i hl
        cases e
        exact ww_name (by simpa [Tg.inn] using hi) (by rw [A.1]; exact hl) (hN _ (A.set rfl) (.set q i d))
      · cases e
  | .tup t, hi, ρ, ρ', q, N, sx, A, hN => by
      refine ⟨fun d e => ?_, fun ds e => by cases e⟩
      have ih := sndGwO eK t hi ρ ρ' q N sx A hN
      cases d with
      | tup l =>
        unfold evalG at e
        split at e
        · rename_i hl
          intro G H s v S R hv Q hq
          subst eK
          exact .inl (ww_tup hl (ih.2 l e) G H s v S R hv Q hq)
        · cases e
      | lst l =>
        unfold evalG at e
        split at e
        · rename_i hl
          intro G H s v S R hv Q hq
          subst eK
          exact .inr (ww_lst hl (ih.2 l e) G H s v S R hv Q hq)
        · cases e
      | _ => cases e
  | .nil, hi, ρ, ρ', q, N, sx, A, hN => by
      refine ⟨fun d e => (by cases d <;> cases e), fun ds e => ?_⟩
      cases ds with
      | nil => cases e; exact ww_nil (hN _ A (.refl q))
      | cons x xs => cases e
  | .cons a b, hi, ρ, ρ', q, N, sx, A, hN => by
      refine ⟨fun d e => (by cases d <;> cases e), fun ds e => ?_⟩
      cases ds with
      | nil => cases e
      | cons x xs =>
        unfold evalG at e
        obtain ⟨ha, hb⟩ := Bool.and_eq_true_iff.mp (show (a.inn vs && b.inn vs) = true from hi)
        split at e
        · rename_i ρ1 h1
          exact ww_cons ((sndGwO eK a ha ρ ρ1 q _ sx A fun q' A' o' => (sndGwO eK b hb ρ1 ρ' q' N sx A' fun q2 A2 o2 => hN q2 A2 (o'.trans o2)).2 xs e).1 x h1)
        · cases e
theorem sndG {K : KB} (eK : K = c.K.toKB) : ∀ (tg : Tg) (ρ ρ' : Vars) (q : List Sl) (N : List Sl → Prop) (sx : Addr × Value × Option Addr), Abs c.K.toKB sx q ρ → (∀ q', Abs c.K.toKB sx q' ρ' → N q') →
    (∀ d, evalG false tg d ρ = some ρ' → wpG c (denGp K tg).1 d q N) ∧ (∀ ds, evalG true tg (.tup ds) ρ = some ρ' → wpGs c (denGp K tg).2 ds q N)
  | .name i, ρ, ρ', q, N, sx, A, hN => by
      refine ⟨fun d e => ?_, fun ds e => by cases e⟩
      unfold evalG at e
      split at e
      · rename_i hl
        cases e
        exact wg_name (by rw [A.1]; exact hl) (hN _ (A.set rfl))
      · cases e
  | .tup t, ρ, ρ', q, N, sx, A, hN => by
      refine ⟨fun d e => ?_, fun ds e => by cases e⟩
      have ih := sndG eK t ρ ρ' q N sx A hN
      cases d with
      | tup l =>
        unfold evalG at e
        split at e
        · rename_i hl
          intro G H s v S R hv Q hq
          subst eK
          exact .inl (wg_tup hl (ih.2 l e) G H s v S R hv Q hq)
        · cases e
      | lst l =>
        unfold evalG at e
        split at e
        · rename_i hl
          intro G H s v S R hv Q hq
          subst eK
          exact .inr (wg_lst hl (ih.2 l e) G H s v S R hv Q hq)
        · cases e
      | _ => cases e
  | .nil, ρ, ρ', q, N, sx, A, hN => by
      refine ⟨fun d e => (by cases d <;> cases e), fun ds e => ?_⟩
      cases ds with
      | nil => cases e; exact wg_nil (hN _ A)
      | cons x xs => cases e
  | .cons a b, ρ, ρ', q, N, sx, A, hN => by
      refine ⟨fun d e => (by cases d <;> cases e), fun ds e => ?_⟩
      cases ds with
      | nil => cases e
      | cons x xs =>
        unfold evalG at e
        split at e
        · rename_i ρ1 h1
          exact wg_cons ((sndG eK a ρ ρ1 q _ sx A fun q' A' => (sndG eK b ρ1 ρ' q' N sx A' hN).2 xs e).1 x h1)
        · cases e
end
end Ez
set_option Elab.async false
set_option linter.all false
set_option maxRecDepth 100000
namespace Ez
open L2 PySem PyProof.Rows PySem.Spec
open Tr
theorem enumL_get : ∀ (l : List D) (n i : Nat) {x : D}, l[i]? = some x → (enumL n l)[i]? = some (.tup [.int ((n + i : Nat) : Int), x])
  | [], _, _, _, h => by simp at h
  | y :: l, n, 0, x, h => by
    have e : y = x := by simpa using h
    subst e; rfl
  | y :: l, n, i + 1, x, h => by
    have := enumL_get l (n + 1) i (x := x) (by simpa using h)
    rw [show n + (i + 1) = n + 1 + i by omega]
    exact this
theorem enumL_len : ∀ (l : List D) (n : Nat), (enumL n l).length = l.length
  | [], _ => rfl
  | _ :: l, n => congrArg (· + 1) (enumL_len l (n + 1))
section
variable {c : Cn} {q : List Sl} {P : D → Prop} {te : TE} {ta : TA} {F : Fn} {g : TG}
/-- a new pair is kept -/
theorem pair_is {K : KT} {G : Hp} {T : Addr} {i : Nat} {d : D} {y : V} (hG : G T = none) (h : Is K G d y) : Is K (upd G T (.tup [.int (i : Int), y])) (.tup [.int (i : Int), d]) (.ref T) :=
  ⟨T, _, rfl, .inl upd_same, _, _, rfl, rfl, _, _, rfl, Is.mono (Ex.new hG) d h, rfl⟩
/-- a turn of a comprehension, the thing walked known where the turn begins -/
theorem lc_turnX {tt : TT} {vs : List Nat} {G1 H1 H : Hp} {A : Addr} {i : Nat} {I J : List D → Prop} {s : L2.St} (hA : H1 A = none) (S : c.S G1 H1) (R : c.R G1 H1 s q) (hi : i ≤ 10000)
    {x : D} {v : V} (w : ∃ G acc xs, I acc ∧ acc.length ≤ i ∧ Stp c.W G1 H1 G H ∧ H A = some (.lst xs) ∧ G A = none ∧ IsL c.K G acc xs ∧ Is c.K G x v) (h : ∀ acc, I acc → lcTurn c g tt te vs q x acc J) :
    g v (L2.wipe s vs) H fun s2 H2 => L2.wipe s2 vs = L2.wipe s vs ∧ tt s2 H2 fun b H3 => if b = true then te s2 H3 fun y H4 => ∃ acc, H4 A = some (.lst acc) ∧ acc.length < sizeLine ∧ LcAt c G1 H1 A (i + 1) J (upd H4 A (.lst (acc ++ [y]))) else LcAt c G1 H1 A (i + 1) J H3 := by
  obtain ⟨G, acc, xs, ha, hl, T, a1, a2, a3, iv⟩ := w
  have mA : ¬ c.W.M A := S.ok.notM hA
  have held : ∀ {G' H' : Hp}, Stp c.W G H G' H' → H' A = some (.lst xs) ∧ G' A = none ∧ IsL c.K G' acc xs := fun {G' H'} T' => by
    refine ⟨T'.kp A _ mA a1, ?_, IsL.mono T'.ex _ a3⟩
    cases z : G' A with
    | none => rfl
    | some o =>
      rcases T'.fresh A o z with y | y
      · rw [a2] at y; cases y
      · rw [a1] at y; cases y
  refine h acc ha G H _ v T.ok ((R.step T).wipe vs) iv _ fun s2 q2 h2 e2 R2 => ⟨by rw [e2, wipe_wipe fun _ z => z], ?_⟩
  refine h2 G H s2 (S.trans T) R2 _ fun G3 H3 b h3 T3 => ?_
  obtain ⟨b1, b2, b3⟩ := held T3
  cases b with
  | false =>
    have z : LcAt c G1 H1 A (i + 1) J H3 := ⟨G3, acc, xs, h3.2 rfl, Nat.le_succ_of_le hl, T.trans T3, b1, b2, b3⟩
    first
      | exact z
      | (rw [if_neg (by decide)]; exact z)
  | true =>
    have z : te s2 H3 fun y H4 => ∃ acc, H4 A = some (.lst acc) ∧ acc.length < sizeLine ∧ LcAt c G1 H1 A (i + 1) J (upd H4 A (.lst (acc ++ [y]))) := by
      refine h3.1 rfl G3 H3 s2 ((S.trans T).trans T3) (R2.step T3) _ fun G4 H4 y d h4 T4 i4 => ?_
      obtain ⟨c1, c2, c3⟩ := held (T3.trans T4)
      refine ⟨xs, c1, by rw [IsL.len a3]; exact Nat.lt_of_le_of_lt (Nat.le_trans hl hi) (by decide), G4, acc ++ [d], xs ++ [y], h4, by simpa using hl, ((T.trans T3).trans T4).put hA c2 mA, upd_same, c2, IsL.app c3 (IsL.one i4)⟩
    first
      | exact z
      | (rw [if_pos rfl]; exact z)
/-- the turn of an enumerate: a new pair -/
theorem lc_turnE {tt : TT} {vs : List Nat} {G1 H1 H H' : Hp} {A : Addr} {i : Nat} {I J : List D → Prop} {s : L2.St} {ds : List D} {xs : List V} {v : V} (hA : H1 A = none) (S : c.S G1 H1) (R : c.R G1 H1 s q) (hz : ds.length ≤ 10000) (il : IsL c.K G1 ds xs)
    (w : LcAt c G1 H1 A i I H) (y : YPair (fun i => some (.int (i : Nat))) (fun i => xs[i]?) i H v H') (h : ∀ x acc, (enumL 0 ds)[i]? = some x → I acc → lcTurn c g tt te vs q x acc J) :
    g v (L2.wipe s vs) H' fun s2 H2 => L2.wipe s2 vs = L2.wipe s vs ∧ tt s2 H2 fun b H3 => if b = true then te s2 H3 fun y H4 => ∃ acc, H4 A = some (.lst acc) ∧ acc.length < sizeLine ∧ LcAt c G1 H1 A (i + 1) J (upd H4 A (.lst (acc ++ [y]))) else LcAt c G1 H1 A (i + 1) J H3 := by
  obtain ⟨T, x', y', rfl, hT, rfl, ex, ey⟩ := y
  cases ex
  obtain ⟨G, acc, zs, ha, hl, T2, a1, a2, a3⟩ := w
  obtain ⟨d, ed, id⟩ := IsL.back il ey
  have hi : i < ds.length := (List.getElem?_eq_some_iff.mp ed).1
  have hG : G T = none := none_of_sub T2.ok.sub hT
  have ne : A ≠ T := fun z => by rw [z, hT] at a1; cases a1
  have e0 := enumL_get ds 0 i ed
  rw [Nat.zero_add] at e0
  exact lc_turnX hA S R (by omega) ⟨_, acc, zs, ha, hl, T2.lay (o := .tup [.int (i : Int), y']) hT, by rw [upd_ne ne]; exact a1, by rw [upd_ne ne]; exact a2, IsL.mono (Ex.new hG) _ a3, pair_is hG (Is.mono T2.ex d id)⟩ fun acc ha => h _ acc e0 ha
theorem wp_lcE {tt : TT} {vs : List Nat} (h : wpA c ta q fun zs => ∃ ds, (zs = [.lst ds] ∨ zs = [.tup ds]) ∧ ds.length ≤ 10000 ∧ ∃ I : Nat → List D → Prop, I 0 [] ∧
      (∀ i x acc, (enumL 0 ds)[i]? = some x → I i acc → lcTurn c g tt te vs q x acc (I (i + 1))) ∧ ∀ acc, I ds.length acc → P (.lst acc)) : wpE c (tLc (iEnumQ c.K ta) g tt te vs) q P := fun G H s S R Q hq =>
  h G H s S R _ fun G1 H1 vz zs h1 T1 i1 => by
    obtain ⟨ds, hd, hz, I, h0, hs, he⟩ := h1
    have start : ∀ A, H1 A = none → LcAt c G1 H1 A 0 (I 0) (upd H1 A (.lst [])) := fun A hA =>
      ⟨G1, [], [], h0, Nat.le_refl 0, (Stp.refl T1.ok).put hA (none_of_sub T1.ok.sub hA) (T1.ok.notM hA), upd_same, none_of_sub T1.ok.sub hA, rfl⟩
    rcases hd with rfl | rfl
    · obtain ⟨v, rfl, a, xs, rfl, l1, l2⟩ := IsL.one_of i1
      refine ⟨a, rfl, .inl ⟨⟨xs, l1.sq T1.ok.sub⟩, fun A hA => lc_it (walk_enum (xs := xs)) (fun i => LcAt c G1 H1 A i (I i)) (start A hA) (fun i H' _ w => ?_) (fun i x H' H'' hi w y => ?_) fun H' w => ?_⟩⟩
      · obtain ⟨G2, acc, ys, _, _, T2, _⟩ := w
        exact (l1.mono T2.ex).sq T2.ok.sub
      · exact lc_turnE hA (S.trans T1) (R.step T1) hz l2 w y fun x acc e ha => hs i x acc e ha
      · rw [IsL.len l2] at w
        exact lc_end hA T1.ok w fun G' v acc ha T' iv => hq G' H' v _ (he acc ha) (T1.trans T') iv
    · obtain ⟨v, rfl, a, xs, rfl, l1, l2⟩ := IsL.one_of i1
      refine ⟨a, rfl, .inr ⟨⟨xs, l1.sq T1.ok.sub⟩, fun A hA => lc_it (walk_enumT (xs := xs)) (fun i => LcAt c G1 H1 A i (I i)) (start A hA) (fun i H' _ w => ?_) (fun i x H' H'' hi w y => ?_) fun H' w => ?_⟩⟩
      · obtain ⟨G2, acc, ys, _, _, T2, _⟩ := w
        exact (l1.mono T2.ex).sq T2.ok.sub
      · exact lc_turnE hA (S.trans T1) (R.step T1) hz l2 w y fun x acc e ha => hs i x acc e ha
      · rw [IsL.len l2] at w
        exact lc_end hA T1.ok w fun G' v acc ha T' iv => hq G' H' v _ (he acc ha) (T1.trans T') iv
/-- a for over an enumerate -/
theorem ws_forE {tb : TS} (h : wpA c ta q fun zs => ∃ ds, (zs = [.lst ds] ∨ zs = [.tup ds]) ∧ ∃ I : Nat → List Sl → Prop, I 0 q ∧
      (∀ i x q', (enumL 0 ds)[i]? = some x → I i q' → wpG c g x q' fun q2 => wpS c tb q2 { F with nx := I (i + 1), ct := I (i + 1), bk := F.nx }) ∧ ∀ q', I ds.length q' → F.nx q') :
    wpS c (tFor (iEnumQ c.K ta) g tb) q F := fun D' s G H S R p =>
  h G H s S R _ fun G1 H1 vz zs h1 T1 i1 => by
    obtain ⟨ds, hd, I, h0, hs, he⟩ := h1
    have p1 := p.more T1.ex
    have turn : ∀ {xs : List V} {i : Nat} {v : V} {s' : L2.St} {H' H'' : Hp}, IsL c.K G1 ds xs → LpAt c G1 (I i) s' H' → YPair (fun i => some (.int (i : Nat))) (fun i => xs[i]?) i H' v H'' →
        g v s' H'' fun s2 H2 => tb { D' with nx := LpAt c G1 (I (i + 1)), ct := LpAt c G1 (I (i + 1)), bk := D'.nx } s2 H2 := by
      intro xs i v s' H' H'' l2 z y
      obtain ⟨T, x', y', rfl, hT, rfl, ex, ey⟩ := y
      cases ex
      obtain ⟨G2, q2, w, e2, S2, R2⟩ := z
      obtain ⟨d, ed, id⟩ := IsL.back l2 ey
      have hG : G2 T = none := none_of_sub S2.ok.sub hT
      have e0 := enumL_get ds 0 i ed
      rw [Nat.zero_add] at e0
      exact turn_at p1 (e2.trans (Ex.new hG)) (S2.lay (o := .tup [.int (i : Int), y']) hT) (R2.step ((Stp.refl S2.ok).lay hT)) (pair_is hG (Is.mono e2 d id)) (hs i _ q2 e0 w)
    rcases hd with rfl | rfl
    · obtain ⟨v, rfl, a, xs, rfl, l1, l2⟩ := IsL.one_of i1
      refine ⟨a, rfl, .inl ⟨⟨xs, l1.sq T1.ok.sub⟩, for_it (walk_enum (xs := xs)) (fun i => LpAt c G1 (I i)) ⟨G1, q, h0, Ex.refl G1, S.trans T1, R.step T1⟩ (fun i s' H' _ z => ?_) (fun i x s' H' H'' hi z y => turn l2 z y) fun s' H' z => ?_⟩⟩
      · obtain ⟨G2, q2, _, e2, S2, _⟩ := z
        exact (l1.mono e2).sq S2.ok.sub
      · obtain ⟨G2, q2, w, e2, S2, R2⟩ := z
        rw [IsL.len l2] at w
        exact p1.nx s' H' G2 q2 (he q2 w) e2 S2 R2
    · obtain ⟨v, rfl, a, xs, rfl, l1, l2⟩ := IsL.one_of i1
      refine ⟨a, rfl, .inr ⟨⟨xs, l1.sq T1.ok.sub⟩, for_it (walk_enumT (xs := xs)) (fun i => LpAt c G1 (I i)) ⟨G1, q, h0, Ex.refl G1, S.trans T1, R.step T1⟩ (fun i s' H' _ z => ?_) (fun i x s' H' H'' hi z y => turn l2 z y) fun s' H' z => ?_⟩⟩
      · obtain ⟨G2, q2, _, e2, S2, _⟩ := z
        exact (l1.mono e2).sq S2.ok.sub
      · obtain ⟨G2, q2, w, e2, S2, R2⟩ := z
        rw [IsL.len l2] at w
        exact p1.nx s' H' G2 q2 (he q2 w) e2 S2 R2
theorem items_en {d : D} {l : List D} (h : itemsOf .enum d = some l) : ∃ ds, (d = .tup [.lst ds] ∨ d = .tup [.tup ds]) ∧ l = enumL 0 ds := by
  unfold itemsOf at h
  split at h
  all_goals first
    | (cases h; done)
    | (rename_i hk; cases hk; done)
    | skip
  · cases h; exact ⟨_, .inl rfl, rfl⟩
  · cases h; exact ⟨_, .inr rfl, rfl⟩
/-- t[:0:-1] -/
theorem wp_bk {P : D → Prop} (h : wpE c te q fun d => ∃ l, d = .tup l ∧ P (.tup (l.drop 1).reverse)) : wpE c (tBk c.K te) q P := fun G H s S R Q hq =>
  h G H s S R _ fun G1 H1 v d h1 T1 i1 => by
    obtain ⟨l, rfl, hp⟩ := h1
    obtain ⟨a, xs, rfl, a1, a2⟩ := i1
    have rev : ∀ {ds : List D} {zs : List V} {G : Hp}, IsL c.K G ds zs → IsL c.K G ds.reverse zs.reverse := by
      intro ds
      induction ds with
      | nil => intro zs G h; cases (show zs = [] from h); exact rfl
      | cons d ds ih =>
        intro zs G h
        obtain ⟨x, r, rfl, h1, h2⟩ := h
        rw [List.reverse_cons, List.reverse_cons]
        exact IsL.app (ih h2) (IsL.one h1)
    exact ⟨a, xs, rfl, a1.sq T1.ok.sub, fun p hp0 => hq _ _ _ _ hp (T1.lay hp0) ⟨p, _, rfl, .inl upd_same, IsL.mono (Ex.new (none_of_sub T1.ok.sub hp0)) _ (rev (IsL.drop 1 a2))⟩⟩
end
end Ez
set_option Elab.async false
set_option linter.all false
set_option maxRecDepth 100000
namespace Ez
open L2 PySem PyProof.Rows PySem.Spec
open Tr
theorem zipL_get : ∀ {l m : List D} {i : Nat} {x y : D}, l[i]? = some x → m[i]? = some y → (zipL l m)[i]? = some (.tup [x, y])
  | [], _, _, _, _, h, _ => by simp at h
  | _ :: _, [], _, _, _, _, h => by simp at h
  | a :: l, b :: m, 0, x, y, h, k => by
    have e : a = x := by simpa using h
    have f : b = y := by simpa using k
    subst e; subst f; rfl
  | a :: l, b :: m, i + 1, x, y, h, k => zipL_get (l := l) (m := m) (by simpa using h) (by simpa using k)
theorem zipL_len : ∀ (l m : List D), (zipL l m).length = min l.length m.length
  | [], m => by simp [zipL]
  | _ :: _, [] => by simp [zipL]
  | a :: l, b :: m => by
    have := zipL_len l m
    show (zipL l m).length + 1 = _
    rw [this, List.length_cons, List.length_cons]; omega
theorem items_zip {d : D} {l : List D} (h : itemsOf .zip d = some l) : ∃ a b ds es, d = .tup [a, b] ∧ seqL a = some ds ∧ seqL b = some es ∧ l = zipL ds es := by
  unfold itemsOf at h
  split at h
  all_goals first
    | (cases h; done)
    | (rename_i hk; cases hk; done)
    | skip
  rename_i a b _
  split at h
  · rename_i ds es e1 e2
    cases h
    exact ⟨a, b, ds, es, rfl, e1, e2, rfl⟩
  · cases h
theorem seq_is {K : KT} {G : Hp} {d : D} {l : List D} {v : V} (h : Is K G d v) (e : seqL d = some l) : ∃ a xs p, v = .ref a ∧ IsL K G l xs ∧ ∀ {G' H' : Hp}, Ex G G' → (∀ a o, G' a = some o → H' a = some o) → SqK K.K p H' a xs := by
  cases d with
  | tup l' =>
    cases e
    obtain ⟨a, xs, rfl, h1, h2⟩ := h
    exact ⟨a, xs, true, rfl, h2, fun e s => (h1.mono e).sq s⟩
  | lst l' =>
    cases e
    obtain ⟨a, xs, rfl, h1, h2⟩ := h
    exact ⟨a, xs, false, rfl, h2, fun e s => (h1.mono e).sq s⟩
  | _ => cases e
theorem pair2_is {K : KT} {G : Hp} {T : Addr} {d e : D} {x y : V} (hG : G T = none) (h : Is K G d x) (k : Is K G e y) : Is K (upd G T (.tup [x, y])) (.tup [d, e]) (.ref T) :=
  ⟨T, _, rfl, .inl upd_same, _, _, rfl, Is.mono (Ex.new hG) d h, _, _, rfl, Is.mono (Ex.new hG) e k, rfl⟩
theorem two_is {K : KT} {G : Hp} {d e : D} {vz : List V} (h : IsL K G [d, e] vz) : ∃ v w, vz = [v, w] ∧ Is K G d v ∧ Is K G e w := by
  obtain ⟨v, r, rfl, h1, w, r2, rfl, h2, rfl⟩ := h
  exact ⟨v, w, rfl, h1, h2⟩
section
variable {c : Cn} {q : List Sl} {P : D → Prop} {te : TE} {ta : TA} {F : Fn} {g : TG}
theorem lc_turnZ {tt : TT} {vs : List Nat} {G1 H1 H H' : Hp} {A : Addr} {i : Nat} {I J : List D → Prop} {s : L2.St} {ds es : List D} {xs ys : List V} {v : V} (hA : H1 A = none) (S : c.S G1 H1) (R : c.R G1 H1 s q) (hz : (zipL ds es).length ≤ 10000) (il : IsL c.K G1 ds xs) (im : IsL c.K G1 es ys)
    (w : LcAt c G1 H1 A i I H) (y : YPair (fun i => xs[i]?) (fun i => ys[i]?) i H v H') (h : ∀ x acc, (zipL ds es)[i]? = some x → I acc → lcTurn c g tt te vs q x acc J) :
    g v (L2.wipe s vs) H' fun s2 H2 => L2.wipe s2 vs = L2.wipe s vs ∧ tt s2 H2 fun b H3 => if b = true then te s2 H3 fun y H4 => ∃ acc, H4 A = some (.lst acc) ∧ acc.length < sizeLine ∧ LcAt c G1 H1 A (i + 1) J (upd H4 A (.lst (acc ++ [y]))) else LcAt c G1 H1 A (i + 1) J H3 := by
  obtain ⟨T, x', y', rfl, hT, rfl, ex, ey⟩ := y
  obtain ⟨G, acc, zs, ha, hl, T2, a1, a2, a3⟩ := w
  obtain ⟨d, ed, id⟩ := IsL.back il ex
  obtain ⟨e, ee, ie⟩ := IsL.back im ey
  have e0 := zipL_get ed ee
  have hi : i < (zipL ds es).length := (List.getElem?_eq_some_iff.mp e0).1
  have hG : G T = none := none_of_sub T2.ok.sub hT
  have ne : A ≠ T := fun z => by rw [z, hT] at a1; cases a1
  exact lc_turnX hA S R (by omega) ⟨_, acc, zs, ha, hl, T2.lay (o := .tup [x', y']) hT, by rw [upd_ne ne]; exact a1, by rw [upd_ne ne]; exact a2, IsL.mono (Ex.new hG) _ a3, pair2_is hG (Is.mono T2.ex d id) (Is.mono T2.ex e ie)⟩ fun acc ha => h _ acc e0 ha
theorem zip_len {K : KT} {G : Hp} {ds es : List D} {xs ys : List V} (h : IsL K G ds xs) (k : IsL K G es ys) : min xs.length ys.length = (zipL ds es).length := by
  rw [zipL_len, IsL.len h, IsL.len k]
theorem wp_lcZ {tt : TT} {vs : List Nat} (h : wpA c ta q fun zs => ∃ d e ds es, zs = [d, e] ∧ seqL d = some ds ∧ seqL e = some es ∧ (zipL ds es).length ≤ 10000 ∧ ∃ I : Nat → List D → Prop, I 0 [] ∧
      (∀ i x acc, (zipL ds es)[i]? = some x → I i acc → lcTurn c g tt te vs q x acc (I (i + 1))) ∧ ∀ acc, I (zipL ds es).length acc → P (.lst acc)) : wpE c (tLc (iZipQ c.K ta) g tt te vs) q P := fun G H s S R Q hq =>
  h G H s S R _ fun G1 H1 vz zs h1 T1 i1 => by
    obtain ⟨d, e, ds, es, rfl, hd, he', hz, I, h0, hs, he⟩ := h1
    obtain ⟨v, w, rfl, iv, iw⟩ := two_is i1
    obtain ⟨a, xs, p, rfl, l1, k1⟩ := seq_is iv hd
    obtain ⟨b, ys, p', rfl, l2, k2⟩ := seq_is iw he'
    refine ⟨a, b, xs, ys, p, p', rfl, k1 (Ex.refl _) T1.ok.sub, k2 (Ex.refl _) T1.ok.sub, fun A hA => ?_⟩
    have start : LcAt c G1 H1 A 0 (I 0) (upd H1 A (.lst [])) := ⟨G1, [], [], h0, Nat.le_refl 0, (Stp.refl T1.ok).put hA (none_of_sub T1.ok.sub hA) (T1.ok.notM hA), upd_same, none_of_sub T1.ok.sub hA, rfl⟩
    refine lc_it (walk_zipX (xs := xs) (ys := ys)) (fun i => LcAt c G1 H1 A i (I i)) start (fun i H' _ w => ?_) (fun i x H' H'' hi w y => ?_) fun H' w => ?_
    · obtain ⟨G2, acc, zs, _, _, T2, _⟩ := w
      exact ⟨k1 T2.ex T2.ok.sub, k2 T2.ex T2.ok.sub⟩
    · exact lc_turnZ hA (S.trans T1) (R.step T1) hz l1 l2 w y fun x acc e ha => hs i x acc e ha
    · rw [zip_len l1 l2] at w
      exact lc_end hA T1.ok w fun G' v acc ha T' iv => hq G' H' v _ (he acc ha) (T1.trans T') iv
/-- a for over a zip -/
theorem ws_forZ {tb : TS} (h : wpA c ta q fun zs => ∃ d e ds es, zs = [d, e] ∧ seqL d = some ds ∧ seqL e = some es ∧ ∃ I : Nat → List Sl → Prop, I 0 q ∧
      (∀ i x q', (zipL ds es)[i]? = some x → I i q' → wpG c g x q' fun q2 => wpS c tb q2 { F with nx := I (i + 1), ct := I (i + 1), bk := F.nx }) ∧ ∀ q', I (zipL ds es).length q' → F.nx q') :
    wpS c (tFor (iZipQ c.K ta) g tb) q F := fun D' s G H S R p =>
  h G H s S R _ fun G1 H1 vz zs h1 T1 i1 => by
    obtain ⟨d, e, ds, es, rfl, hd, he', I, h0, hs, he⟩ := h1
    have p1 := p.more T1.ex
    obtain ⟨v, w, rfl, iv, iw⟩ := two_is i1
    obtain ⟨a, xs, k, rfl, l1, k1⟩ := seq_is iv hd
    obtain ⟨b, ys, k', rfl, l2, k2⟩ := seq_is iw he'
    refine ⟨a, b, xs, ys, k, k', rfl, k1 (Ex.refl _) T1.ok.sub, k2 (Ex.refl _) T1.ok.sub, ?_⟩
    refine for_it (walk_zipX (xs := xs) (ys := ys)) (fun i => LpAt c G1 (I i)) ⟨G1, q, h0, Ex.refl G1, S.trans T1, R.step T1⟩ (fun i s' H' _ z => ?_) (fun i x s' H' H'' hi z y => ?_) fun s' H' z => ?_
    · obtain ⟨G2, q2, _, e2, S2, _⟩ := z
      exact ⟨k1 e2 S2.ok.sub, k2 e2 S2.ok.sub⟩
    · obtain ⟨T, x', y', rfl, hT, rfl, ex, ey⟩ := y
      obtain ⟨G2, q2, w, e2, S2, R2⟩ := z
      obtain ⟨d, ed, id⟩ := IsL.back l1 ex
      obtain ⟨e, ee, ie⟩ := IsL.back l2 ey
      have hG : G2 T = none := none_of_sub S2.ok.sub hT
      have e0 := zipL_get ed ee
      exact turn_at p1 (e2.trans (Ex.new hG)) (S2.lay (o := .tup [x', y']) hT) (R2.step ((Stp.refl S2.ok).lay hT)) (pair2_is hG (Is.mono e2 d id) (Is.mono e2 e ie)) (hs i _ q2 e0 w)
    · obtain ⟨G2, q2, w, e2, S2, R2⟩ := z
      rw [zip_len l1 l2] at w
      exact p1.nx s' H' G2 q2 (he q2 w) e2 S2 R2
end
end Ez
set_option Elab.async false
set_option linter.all false
set_option maxRecDepth 100000
namespace Ez
open L2 PySem PyProof.Rows PySem.Spec
open Tr
theorem zip_lookup {K : KT} {G : Hp} {f : Str} : ∀ {ns : List Str} {ds : List D} {xs : List V} {e : D}, IsL K G ds xs → (ns.zip ds).lookup f = some e → f ∈ ns ∧ ∃ v, (ns.zip xs).lookup f = some v ∧ Is K G e v
  | [], _, _, _, _, h => by simp at h
  | _ :: _, [], _, _, _, h => by simp at h
  | n :: ns, d :: ds, _, e, ⟨x, r, p, h1, h2⟩, h => by
    subst p
    rw [List.zip_cons_cons, List.lookup_cons] at h ⊢
    cases z : f == n with
    | true =>
      rw [z] at h
      cases h
      exact ⟨by rw [eq_of_beq z]; exact List.mem_cons_self, x, rfl, h1⟩
    | false =>
      rw [z] at h
      obtain ⟨a, v, b, c⟩ := zip_lookup h2 h
      exact ⟨List.mem_cons_of_mem _ a, v, b, c⟩
theorem putF_new {f : Str} {y : V} : ∀ {ns : List Str} {xs : List V}, f ∉ ns → ns.length = xs.length → putF f y (ns.zip xs) = (ns ++ [f]).zip (xs ++ [y])
  | [], [], _, _ => rfl
  | n :: ns, x :: xs, h, l => by
    have ne : ¬ n = f := fun e => h (by rw [e]; exact List.mem_cons_self)
    change (if n = f then (n, y) :: ns.zip xs else (n, x) :: putF f y (ns.zip xs)) = (n, x) :: (ns ++ [f]).zip (xs ++ [y])
    rw [if_neg ne, putF_new (fun m => h (List.mem_cons_of_mem _ m)) (by simpa using l)]
section
variable {c : Cn} {κ : Dn} {Γ : Pgm} {Z : Vars → Xn → Prop} {q : List Sl} {ρ : Vars} {P : D → Prop} {te : TE} {ta : TA} {F : Fn}
theorem wp_fld {f : Str} (cl : ∀ k, c.K.fld k ≠ [] → Cls c.K (c.K.cls k) ∧ (c.K.fld k).Nodup ∧ (c.K.fld k).length < 1000 ∧ ∀ f ∈ c.K.fld k, NoAttr c.K (c.K.cls k) f)
    (h : wpE c te q fun d => ∃ k ds e, d = .ins k ds ∧ ((c.K.fld k).zip ds).lookup f = some e ∧ P e) : wpE c (tFld c.K te f) q P := fun G H s S R Q hq =>
  h G H s S R _ fun G1 H1 v d h1 T1 i1 => by
    obtain ⟨k, ds, e, rfl, hl, hp⟩ := h1
    obtain ⟨a, dx, xs, rfl, e1, e2, e3⟩ := i1
    obtain ⟨m, u, l, i⟩ := zip_lookup e3 hl
    obtain ⟨c1, _, _, c4⟩ := cl k (fun z => by rw [z] at m; cases m)
    exact ⟨a, _, dx, _, u, rfl, T1.ok.sub _ _ e1, c1, c4 f m, l, hq G1 H1 u e hp T1 i⟩
theorem ws_setF {f : Str} {p dx : Addr} {k : Nat} {ds : List D} (cl : ∀ k, c.K.fld k ≠ [] → Cls c.K (c.K.cls k) ∧ (c.K.fld k).Nodup ∧ (c.K.fld k).length < 1000 ∧ ∀ f ∈ c.K.fld k, NoAttr c.K (c.K.cls k) f)
    (hi : q[0]? = some (.obj p dx k ds)) (h : wpE c te q fun d => (c.K.fld k)[ds.length]? = some f ∧ F.nx (q.set 0 (.obj p dx k (ds ++ [d])))) : wpS c (sFld c.K (tVar 0) te f) q F := fun D' s G H S R pp =>
  h G H s S R _ fun G1 H1 v d h1 T1 i1 => by
    obtain ⟨hf, hn⟩ := h1
    have R1 := R.step T1
    obtain ⟨xs, e1, e2, e3, e4, e5, e6, e7⟩ := R1.obj p dx k ds hi
    obtain ⟨hl, hg⟩ := List.getElem?_eq_some_iff.mp hf
    obtain ⟨c1, c2, c3, c4⟩ := cl k (fun z => by rw [z] at hl; cases hl)
    have lt : ((c.K.fld k).take ds.length).length = xs.length := by rw [List.length_take, IsL.len e7]; omega
    have nm : f ∉ (c.K.fld k).take ds.length := fun m => by
      obtain ⟨j, hj, ej⟩ := List.mem_iff_getElem.mp m
      rw [List.getElem_take] at ej
      have hj' : j < ds.length := by rw [List.length_take] at hj; omega
      exact List.pairwise_iff_getElem.mp c2 j ds.length (by omega) hl hj' (ej.trans hg.symm)
    have pe : putF f v (((c.K.fld k).take ds.length).zip xs) = ((c.K.fld k).take (ds.length + 1)).zip (xs ++ [v]) := by
      rw [putF_new nm lt, List.take_add_one, hf]; rfl
    refine ⟨_, e1, p, _, dx, _, rfl, e2, c1, c4 f (List.mem_of_getElem? hf), ?_, ?_⟩
    · rw [List.length_zip, List.length_take]; omega
    · rw [pe]
      exact pp.nx _ _ G1 _ hn T1.ex ((S.trans T1).put e5 e4 e6) (R1.putI hi e2 hl e7 i1)
theorem ws_par3 {i j l : Nat} (h : wpA c ta q fun ds => ∃ x y z, ds = [x, y, z] ∧ i < q.length ∧ j < q.length ∧ l < q.length ∧ F.nx (((q.set i (.dat x)).set j (.dat y)).set l (.dat z))) : wpS c (tPar3 i j l ta) q F := fun D' s G H S R p =>
  h G H s S R _ fun G1 H1 vs ds h1 T1 i1 => by
    obtain ⟨x, y, z, rfl, hi, hj, hl, k⟩ := h1
    obtain ⟨v, r, rfl, iv, w, r2, rfl, iw, u, r3, rfl, iu, rfl⟩ := i1
    exact ⟨v, w, u, rfl, p.nx _ _ G1 _ k T1.ex (S.trans T1) ((((R.step T1).setD iv hi).setD iw (by simpa using hj)).setD iu (by simpa using hl))⟩
/-- a thing is made -/
theorem sp_new (S : Sd c κ Γ) (hz : SnkOk c κ Z) {k f : Nat} {sk : Bool} {ds : List D} {G H : Hp} {s : L2.St} {vs : List V} (Sp : c.S G H) (R : c.R G H s q) (A : Abs c.K.toKB κ.sx q ρ) (i : IsL c.K G ds vs)
    (h : All (hdC c) P (Z ρ) (if sk then Γ.call f ds else (Γ.call f ds).noX)) {Q : VK} (hq : ∀ G' H' v d, P d → Stp c.W G H G' H' → Is c.K G' d v → Q v H') {x dx : Addr} (hx : H x = none) (hd : H dx = none) (ne : dx ≠ x) :
    κ.si k f (.ref x :: vs) (upd (upd H dx (.own x)) x (.ins (c.K.cls k) dx [])) (fun v H2 => v = .non ∧ Q (.ref x) H2) ((cond sk κ.snk.at Snk.no.at) s) := by
  refine S.si _ _ _ _ _ _ ?_
  cases sk with
  | true =>
    simp only [if_true, cond_true] at h ⊢
    refine ⟨c.W, G, H, x, dx, ds, vs, rfl, hx, hd, ne, rfl, Sp.ok, i, h.mono (fun _ _ => trivial) (fun _ _ => trivial), fun G' H' d a T i' => ⟨rfl, hq G' H' _ d (h.of_ret a) T i'⟩, fun G' H' C dy ns es xs a T e1 e2 e3 => ?_⟩
    obtain ⟨x, hx, rfl, rfl, rfl⟩ := a
    exact hz q ρ G' H' s dy xs x (h.of_exn hx) A (Sp.trans T) (R.step T) e1 e2 e3
  | false =>
    simp only [Bool.false_eq_true, if_false, cond_false] at h ⊢
    have h := h.of_noX
    refine ⟨c.W, G, H, x, dx, ds, vs, rfl, hx, hd, ne, rfl, Sp.ok, i, h.mono (fun _ _ => trivial) (fun _ _ => trivial), fun G' H' d a T i' => ⟨rfl, hq G' H' _ d (h.of_ret a) T i'⟩, fun G' H' C dy ns es xs a T e1 e2 e3 => ?_⟩
    obtain ⟨x, hx, _⟩ := a
    exact (h.of_exn hx).elim
end
end Ez
set_option Elab.async false
set_option linter.all false
set_option maxRecDepth 100000
namespace Ez
open L2 PySem PyProof.Rows PySem.Spec
open Tr
def IsB (B : Bool → Prop) (d : D) : Prop := ∃ b, d = .bl b ∧ B b
def IsT (L : List D → Prop) (d : D) : Prop := ∃ xs, d = .tup xs ∧ L xs
def IsO (O : Option Int → Prop) (d : D) : Prop := (d = .non ∧ O none) ∨ ∃ i, d = .int i ∧ O (some i)
theorem wp_star {c : Cn} {q : List Sl} {ta : TE} {tr : TA} {F : PySem.W.Frag} (hF : F = c.K.toKB.K) {P : List D → Prop} (h : wpE c ta q fun x => ∃ l, seqL x = some l ∧ wpA c tr q fun xs => P (l ++ xs)) : wpA c (StX.tStar F ta tr) q P := by
  subst hF
  intro G H s S R Q hq
  refine h G H s S R _ fun G1 H1 v x hx T1 i1 => ?_
  obtain ⟨l, e, h1⟩ := hx
  cases x with
  | tup ds =>
    cases e
    obtain ⟨p, xs, rfl, a1, a2⟩ := i1
    exact ⟨p, xs, rfl, .inl (a1.sq T1.ok.sub), h1 G1 H1 s (S.trans T1) (R.step T1) _ fun G2 H2 vs ys h2 T2 i2 => hq G2 H2 _ _ h2 (T1.trans T2) (IsL.app (IsL.mono T2.ex _ a2) i2)⟩
  | lst ds =>
    cases e
    obtain ⟨p, xs, rfl, a1, a2⟩ := i1
    exact ⟨p, xs, rfl, .inr (a1.sq T1.ok.sub), h1 G1 H1 s (S.trans T1) (R.step T1) _ fun G2 H2 vs ys h2 T2 i2 => hq G2 H2 _ _ h2 (T1.trans T2) (IsL.app (IsL.mono T2.ex _ a2) i2)⟩
  | _ => cases e
theorem wa_mono {c : Cn} {q : List Sl} {ta : TA} {P P' : List D → Prop} (h : wpA c ta q P) (k : ∀ d, P d → P' d) : wpA c ta q P' := fun G H s S R Q hq => h G H s S R Q fun G' H' v d p => hq G' H' v d (k d p)
structure S4 (c : Cn) (κ : Dn) (Γ : Pgm) (Z : Vars → Xn → Prop) (y : EE) (q : List Sl) (ρ : Vars) : Prop where
  e : ∀ P, All (hdC c) P (Z ρ) (evalE Γ y ρ) → wpE c (den κ y).e q P
  t : ∀ B, All (hdC c) (IsB B) (Z ρ) (evalE Γ y ρ) → wpT c (den κ y).t q B
  a : ∀ L, All (hdC c) (IsT L) (Z ρ) (evalE Γ y ρ) → wpA c (den κ y).a q L
  o : ∀ O, All (hdC c) (IsO O) (Z ρ) (evalE Γ y ρ) → wpO c (den κ y).o q O
def Snd (c : Cn) (κ : Dn) (Γ : Pgm) (Z : Vars → Xn → Prop) (e : EE) : Prop := ∀ q ρ, Abs c.K.toKB κ.sx q ρ → S4 c κ Γ Z e q ρ
section
variable {c : Cn} {κ : Dn} {Γ : Pgm} {Z : Vars → Xn → Prop} {q : List Sl} {ρ : Vars} {te : TE}
theorem wa_of {L : List D → Prop} (h : wpE c te q (IsT L)) : wpA c (taOf c.K te) q L := fun G H s S R Q hq =>
  h G H s S R _ fun G1 H1 v d h1 T1 i1 => by
    obtain ⟨xs, rfl, k⟩ := h1
    obtain ⟨a, vs, rfl, j1, j2⟩ := i1
    exact ⟨a, vs, rfl, j1.sq T1.ok.sub, hq G1 H1 vs xs k T1 j2⟩
theorem wo_of {O : Option Int → Prop} (h : wpE c te q (IsO O)) : wpO c (toOf te) q O := fun G H s S R Q hq =>
  h G H s S R _ fun G1 H1 v d h1 T1 i1 => by
    rcases h1 with ⟨rfl, k⟩ | ⟨i, rfl, k⟩
    · exact .inl ⟨i1, hq G1 H1 _ k T1⟩
    · exact .inr ⟨i, i1, hq G1 H1 _ k T1⟩
theorem S4.of (S : Sd c κ Γ) {e : EE} (he : den κ e = κ.of te) (h : ∀ P, All (hdC c) P (Z ρ) (evalE Γ e ρ) → wpE c te q P) : S4 c κ Γ Z e q ρ := by
  refine ⟨fun P k => ?_, fun B k => ?_, fun L k => ?_, fun O k => ?_⟩
  · rw [he]; exact h P k
  · rw [he]; exact wt_B (h _ k)
  · rw [he]; show wpA c (taOf κ.K te) q L; rw [S.eK]; exact wa_of (h _ k)
  · rw [he]; exact wo_of (h _ k)
theorem S4.wt (S : Sd c κ Γ) {e : EE} {tt : TT} (he : den κ e = κ.wt te tt) (h : ∀ P, All (hdC c) P (Z ρ) (evalE Γ e ρ) → wpE c te q P) (h2 : ∀ B, All (hdC c) (IsB B) (Z ρ) (evalE Γ e ρ) → wpT c tt q B) : S4 c κ Γ Z e q ρ := by
  refine ⟨fun P k => ?_, fun B k => ?_, fun L k => ?_, fun O k => ?_⟩
  · rw [he]; exact h P k
  · rw [he]; exact h2 B k
  · rw [he]; show wpA c (taOf κ.K te) q L; rw [S.eK]; exact wa_of (h _ k)
  · rw [he]; exact wo_of (h _ k)
theorem mono_e {P P' : D → Prop} (h : wpE c te q P) (k : ∀ d, P d → P' d) : wpE c te q P' := wp_mono h k
theorem S4.fe {y : EE} (s : S4 c κ Γ Z y q ρ) {P P' : D → Prop} (h : All (hdC c) P (Z ρ) (evalE Γ y ρ)) (k : ∀ d, P d → P' d) : wpE c (den κ y).e q P' := wp_mono (s.e P h) k
theorem S4.ft {y : EE} (s : S4 c κ Γ Z y q ρ) {P : D → Prop} {B : Bool → Prop} (h : All (hdC c) P (Z ρ) (evalE Γ y ρ)) (k : ∀ d, P d → IsB B d) : wpT c (den κ y).t q B := s.t B (h.mono k fun _ z => z)
theorem S4.fa {y : EE} (s : S4 c κ Γ Z y q ρ) {P : D → Prop} {L : List D → Prop} (h : All (hdC c) P (Z ρ) (evalE Γ y ρ)) (k : ∀ d, P d → IsT L d) : wpA c (den κ y).a q L := s.a L (h.mono k fun _ z => z)
theorem S4.fo {y : EE} (s : S4 c κ Γ Z y q ρ) {P : D → Prop} {O : Option Int → Prop} (h : All (hdC c) P (Z ρ) (evalE Γ y ρ)) (k : ∀ d, P d → IsO O d) : wpO c (den κ y).o q O := s.o O (h.mono k fun _ z => z)
/-- own == -/
theorem od_own (S : Sd c κ Γ) {n : Bool} {f k : Nat} {d1 d2 : List D} {P : D → Prop} {X : Xn → Prop} (hk : k = k) (h : All (hdC c) P X ((Γ.call f [.ins k d1, .ins k d2]).noX.bind (eqBack n))) : opD c (rOwn (c.K.cls k) (κ.sp f) n) (.ins k d1) (.ins k d2) P := fun G H vx vy o i1 i2 Q hq => by
  have i1' := i1
  have i2' := i2
  obtain ⟨a, dx, xs, rfl, e1, _, _⟩ := i1
  obtain ⟨b, dy, ys, rfl, e2, _, _⟩ := i2
  refine ⟨a, b, dx, dy, _, _, rfl, rfl, o.sub _ _ e1, o.sub _ _ e2, S.sp _ _ _ _ _ (spF_of ?_)⟩
  have h1 := h.bind.of_noX
  refine ⟨c.W, G, [.ins k d1, .ins k d2], o, ?_, h1.mono (fun _ _ => trivial) (fun _ _ => trivial), fun G' H' v d p T i' => ?_, fun G' H' C dx ns es xs p T e1 e2 e3 => ?_⟩
  · exact ⟨_, _, rfl, i1', _, _, rfl, i2', rfl⟩
  · have z := h1.of_ret p
    cases d with
    | bl r =>
      cases (show v = V.bl r from i')
      exact ⟨r, rfl, hq G' H' _ _ z T rfl⟩
    | _ => exact (show False from z).elim
  · obtain ⟨x, hx, rfl, rfl, rfl⟩ := p
    exact (h1.of_exn hx).elim
/-- a property -/
theorem sp_prp (S : Sd c κ Γ) {f k : Nat} {ds : List D} {P : D → Prop} {X : Xn → Prop} {G H : Hp} {v : V} (ok : Ok c.W G H) (i : Is c.K G (.ins k ds) v) (h : All (hdC c) P X (Γ.call f [.ins k ds]).noX) {Q : VK} (hq : ∀ G' H' v d, P d → Stp c.W G H G' H' → Is c.K G' d v → Q v H') : ∃ a dx fs, v = V.ref a ∧ H a = some (.ins (c.K.cls k) dx fs) ∧ κ.sp f [V.ref a] H Q E0 := by
  have i' := i
  obtain ⟨a, dx, xs, rfl, e1, _, _⟩ := i
  refine ⟨a, dx, _, rfl, ok.sub _ _ e1, S.sp _ _ _ _ _ (spF_of ?_)⟩
  have h1 := h.of_noX
  refine ⟨c.W, G, [.ins k ds], ok, ?_, h1.mono (fun _ _ => trivial) (fun _ _ => trivial), fun G' H' v d p T i' => ?_, fun G' H' C dx ns es xs p T e1 e2 e3 => ?_⟩
  · exact ⟨_, _, rfl, i', rfl⟩
  · exact hq G' H' v d (h1.of_ret p) T i'
  · obtain ⟨x, hx, rfl, rfl, rfl⟩ := p
    exact (h1.of_exn hx).elim
/-- an own list compared -/
theorem wp_cmpO {q : List Sl} {P : D → Prop} {tb : TE} {i : Nat} {a : Addr} {ds : List D} {n : Bool} (hi : q[i]? = some (.own a ds)) (h : wpE c tb q fun y => (D.cmp (.lst ds) && D.cmp y) = true ∧ P (.bl (cond n (!D.eqv (.lst ds) y) (D.eqv (.lst ds) y)))) : wpE c (tOp (den2 c.K (cond n .ne .eq)) (tVar i) tb) q P := fun G H s S R Q hq => by
  obtain ⟨xs, e1, e2, e3, e4, e5, e6⟩ := R.own i a ds hi
  refine ⟨_, e1, h G H s S R _ fun G1 H1 vy y h1 T1 i1 => ?_⟩
  obtain ⟨cc, p⟩ := h1
  obtain ⟨cl, cy⟩ := Bool.and_eq_true_iff.mp cc
  obtain ⟨xs', f1, f2, f3, f4, f5, f6⟩ := (R.step T1).own i a ds hi
  have il : Is c.K H1 (.lst ds) (.ref a) := ⟨a, xs', rfl, f2, IsL.mono T1.ok.sub _ f6⟩
  have dl := Is.dp (Ex.refl H1) (.lst ds) (Bool.and_eq_true_iff.mp cl).1 il
  have dy := Is.dp T1.ok.sub y (Bool.and_eq_true_iff.mp cy).1 i1
  cases n with
  | true => exact ⟨D.py (.lst ds), y.py, dl, dy, D.shp cl, D.shp cy, hq G1 H1 _ _ p T1 rfl⟩
  | false => exact ⟨D.py (.lst ds), y.py, dl, dy, D.shp cl, D.shp cy, hq G1 H1 _ _ p T1 rfl⟩
theorem idxD_spec : ∀ {y : D} {l : List D} {k j : Nat}, idxD y l k = some j → k ≤ j ∧ (∃ z, l[j - k]? = some z ∧ D.eqv z y = true) ∧ ∀ m z, m < j - k → l[m]? = some z → D.eqv z y = false
  | y, [], k, j, h => by cases h
  | y, x :: l, k, j, h => by
    rw [idxD] at h
    by_cases c : D.eqv x y = true
    · rw [if_pos c] at h
      cases h
      exact ⟨Nat.le_refl _, ⟨x, by simp, c⟩, fun m z hm => by omega⟩
    · rw [if_neg c] at h
      obtain ⟨h1, ⟨z, h2, h3⟩, h4⟩ := idxD_spec h
      refine ⟨by omega, ⟨z, ?_, h3⟩, fun m z' hm hz => ?_⟩
      · rw [show j - k = (j - (k + 1)) + 1 by omega, List.getElem?_cons_succ]; exact h2
      · cases m with
        | zero => cases hz; simpa using c
        | succ m => exact h4 m z' (by omega) (by simpa using hz)
theorem wp_idx {q : List Sl} {P : D → Prop} {ta tb : TE} (h : wpE c ta q fun x => ∃ l, x = .lst l ∧ wpE c tb q fun y => (D.cmp (.lst l) && D.cmp y) = true ∧ ∃ j, idxD y l 0 = some j ∧ P (.int (j : Int))) : wpE c (tBM c.K "list" (rIndexD c.K) ta (tCons tb tNil)) q P := fun G H s S R Q hq =>
  h G H s S R _ fun G1 H1 vx x h1 T1 i1 => by
    obtain ⟨l, rfl, h2⟩ := h1
    have i1' := i1
    obtain ⟨a, xs, rfl, e1, e2⟩ := i1
    refine ⟨.inl ⟨rfl, xs, e1.sq T1.ok.sub⟩, h2 G1 H1 s (S.trans T1) (R.step T1) _ fun G2 H2 vy y h3 T2 i2 => ?_⟩
    obtain ⟨cc, j, hj, p⟩ := h3
    obtain ⟨cl, cy⟩ := Bool.and_eq_true_iff.mp cc
    obtain ⟨_, ⟨z, hz, ez⟩, hm⟩ := idxD_spec hj
    rw [Nat.sub_zero] at hz hm
    have pl : D.pur (.lst l) = true := (Bool.and_eq_true_iff.mp cl).1
    have py : D.pur y = true := (Bool.and_eq_true_iff.mp cy).1
    refine ⟨a, vy, y.py, D.pyL l, j, z.py, rfl, rfl, Is.dp T2.ok.sub (.lst l) pl (Is.mono T2.ex _ i1'), Is.dp T2.ok.sub y py i2, D.shp cl, D.shp cy, ?_, ez, fun m z' hlt hz' => ?_, hq G2 H2 _ _ p (T1.trans T2) rfl⟩
    · rw [pyL_get, hz]; rfl
    · rw [pyL_get] at hz'
      obtain ⟨w, hw, rfl⟩ := Option.map_eq_some_iff.mp hz'
      exact hm m w hlt hw
/-- a call of a def by its number -/
theorem sp_run (S : Sd c κ Γ) (hz : SnkOk c κ Z) {f : Nat} {sk : Bool} {ds : List D} {P : D → Prop} {G H : Hp} {s : L2.St} {vs : List V} (Sp : c.S G H) (R : c.R G H s q) (A : Abs c.K.toKB κ.sx q ρ) (i : IsL c.K G ds vs)
    (h : All (hdC c) P (Z ρ) (if sk then Γ.call f ds else (Γ.call f ds).noX)) {Q : VK} (hq : ∀ G' H' v d, P d → Stp c.W G H G' H' → Is c.K G' d v → Q v H') : κ.sp f vs H Q ((cond sk κ.snk.at Snk.no.at) s) := by
  refine S.sp _ _ _ _ _ (spF_of ?_)
  cases sk with
  | true =>
    simp only [if_true, cond_true] at h ⊢
    refine ⟨c.W, G, ds, Sp.ok, i, h.mono (fun _ _ => trivial) (fun _ _ => trivial), fun G' H' v d a T i' => hq G' H' v d (h.of_ret a) T i', fun G' H' C dx ns es xs a T e1 e2 e3 => ?_⟩
    obtain ⟨x, hx, rfl, rfl, rfl⟩ := a
    exact hz q ρ G' H' s dx xs x (h.of_exn hx) A (Sp.trans T) (R.step T) e1 e2 e3
  | false =>
    simp only [Bool.false_eq_true, if_false, cond_false] at h ⊢
    have h := h.of_noX
    refine ⟨c.W, G, ds, Sp.ok, i, h.mono (fun _ _ => trivial) (fun _ _ => trivial), fun G' H' v d a T i' => hq G' H' v d (h.of_ret a) T i', fun G' H' C dx ns es xs a T e1 e2 e3 => ?_⟩
    obtain ⟨x, hx, _⟩ := a
    exact (h.of_exn hx).elim
theorem rngL_get : ∀ (n : Nat) (lo : Int) (i : Nat), i < n → (rngL lo n)[i]? = some (.int (lo + i))
  | 0, _, _, h => absurd h (Nat.not_lt_zero _)
  | n + 1, lo, 0, _ => by show some (D.int lo) = _; rw [show lo + ((0 : Nat) : Int) = lo by omega]
  | n + 1, lo, i + 1, h => by
    show (rngL (lo + 1) n)[i]? = _
    rw [rngL_get n (lo + 1) i (by omega)]
    rw [show lo + 1 + (i : Int) = lo + ((i + 1 : Nat) : Int) by omega]
theorem rngL_len : ∀ (n : Nat) (lo : Int), (rngL lo n).length = n
  | 0, _ => rfl
  | n + 1, lo => congrArg (· + 1) (rngL_len n (lo + 1))
theorem drop_at {l : List D} {i : Nat} {x : D} (h : l[i]? = some x) : l.drop i = x :: l.drop (i + 1) := by
  obtain ⟨hi, e⟩ := List.getElem?_eq_some_iff.mp h
  rw [List.drop_eq_getElem_cons hi, e]
theorem wp_slO {q : List Sl} {i : Nat} {a : Addr} {ds : List D} {tl th : TO} {P : D → Prop} (hi : q[i]? = some (.own a ds)) (h : wpO c tl q fun lo => wpO c th q fun hi => P (.lst (cutD ds lo hi))) : wpE c (tSl (rSlQ c.K) (tVar i) tl th) q P := fun G H s S R Q hq => by
  obtain ⟨xs, e1, e2, e3, e4, e5, e6⟩ := R.own i a ds hi
  refine ⟨_, e1, ?_⟩
  exact h G H s S R _ fun G2 H2 lo h2 T2 => h2 G2 H2 s (S.trans T2) (R.step T2) _ fun G3 H3 hi' h3 T3 => by
    obtain ⟨ys, f1, f2, f3, f4, f5, f6⟩ := ((R.step T2).step T3).own i a ds hi
    have ea : ys = ys := rfl
    exact .inl ⟨a, ys, rfl, .inl (.inl f2), fun p hp0 => hq _ _ _ _ h3 ((T2.trans T3).lay hp0) ⟨p, _, rfl, upd_same, IsL.mono (Ex.new (none_of_sub T3.ok.sub hp0)) _ (IsL.cut f6 lo hi')⟩⟩
theorem wp_slQ {te : TE} {tl th : TO} {P : D → Prop} (h : wpE c te q fun x => wpO c tl q fun lo => wpO c th q fun hi => ∃ ds, (x = .lst ds ∧ P (.lst (cutD ds lo hi))) ∨ (x = .tup ds ∧ P (.tup (cutD ds lo hi)))) : wpE c (tSl (rSlQ c.K) te tl th) q P := fun G H s S R Q hq =>
  h G H s S R _ fun G1 H1 v d h1 T1 i1 => h1 G1 H1 s (S.trans T1) (R.step T1) _ fun G2 H2 lo h2 T2 => h2 G2 H2 s ((S.trans T1).trans T2) ((R.step T1).step T2) _ fun G3 H3 hi h3 T3 => by
    obtain ⟨ds, ⟨rfl, hp⟩ | ⟨rfl, hp⟩⟩ := h3
    · obtain ⟨a, xs, rfl, a1, a2⟩ := i1
      have e := T2.ex.trans T3.ex
      refine .inl ⟨a, xs, rfl, (a1.mono e).sq T3.ok.sub, fun p hp0 => ?_⟩
      have T := ((T1.trans T2).trans T3).lay (o := .lst (cutV xs lo hi)) hp0
      exact hq _ _ _ _ hp T ⟨p, _, rfl, upd_same, IsL.mono (Ex.new (none_of_sub T3.ok.sub hp0)) _ (IsL.mono e _ (IsL.cut a2 lo hi))⟩
    · obtain ⟨a, xs, rfl, a1, a2⟩ := i1
      have e := T2.ex.trans T3.ex
      have TT := (T1.trans T2).trans T3
      refine .inr ⟨a, xs, rfl, (a1.mono e).sq T3.ok.sub, fun z => ?_, fun _ p hp0 => ?_⟩
      · rw [IsL.whole a2 z.1 z.2] at hp
        exact hq _ _ _ _ hp TT ⟨a, xs, rfl, a1.mono e, IsL.mono e _ a2⟩
      · exact hq _ _ _ _ hp (TT.lay hp0) ⟨p, _, rfl, .inl upd_same, IsL.mono (Ex.new (none_of_sub T3.ok.sub hp0)) _ (IsL.mono e _ (IsL.cut a2 lo hi))⟩
theorem items_seq {d : D} {l : List D} (h : itemsOf .seq d = some l) : d = .lst l ∨ d = .tup l ∨ d = .scr l := by
  cases d with
  | lst l' => cases h; exact .inl rfl
  | tup l' => cases h; exact .inr (.inl rfl)
  | scr l' => cases h; exact .inr (.inr rfl)
  | _ => cases h
theorem items_r1 {d : D} {l : List D} (h : itemsOf .rng1 d = some l) : ∃ n : Int, d = .tup [.int n] ∧ -10000 ≤ n ∧ n ≤ 100000 ∧ l = rngL 0 n.toNat := by
  unfold itemsOf at h
  split at h
  all_goals first
    | (cases h; done)
    | (rename_i hk hd; cases hk; done)
    | skip
  all_goals first
    | (split at h
       · rename_i n _ hn; cases h; exact ⟨n, rfl, hn.1, hn.2, rfl⟩
       · cases h)
    | contradiction
theorem items_r2 {d : D} {l : List D} (h : itemsOf .rng2 d = some l) : ∃ a b : Int, d = .tup [.int a, .int b] ∧ 0 ≤ a ∧ a ≤ 10000 ∧ -10000 ≤ b ∧ b ≤ 10000 ∧ l = rngL a (b - a).toNat := by
  unfold itemsOf at h
  split at h
  all_goals first
    | (cases h; done)
    | skip
  all_goals first
    | (split at h
       · rename_i a b _ hn; cases h; exact ⟨a, b, rfl, hn.1, hn.2.1, hn.2.2.1, hn.2.2.2, rfl⟩
       · cases h)
    | contradiction
/-- a comprehension over what stands -/
theorem wp_lcQ {g : TG} {ta : TE} {tt : TT} {te : TE} {vs : List Nat} {P : D → Prop} (h : wpE c ta q fun d => ∃ ds, (d = .lst ds ∨ d = .tup ds ∨ d = .scr ds) ∧ ds.length ≤ 10000 ∧ ∃ I : Nat → List D → Prop, I 0 [] ∧
      (∀ i x acc, ds[i]? = some x → I i acc → lcTurn c g tt te vs q x acc (I (i + 1))) ∧ ∀ acc, I ds.length acc → P (.lst acc)) : wpE c (tLc (iSeq c.K ta) g tt te vs) q P := fun G H s S R Q hq =>
  h G H s S R _ fun G1 H1 v d h1 T1 i1 => by
    obtain ⟨ds, hd, hz, I, h0, hs, he⟩ := h1
    have start : ∀ A, H1 A = none → LcAt c G1 H1 A 0 (I 0) (upd H1 A (.lst [])) := fun A hA =>
      ⟨G1, [], [], h0, Nat.le_refl 0, (Stp.refl T1.ok).put hA (none_of_sub T1.ok.sub hA) (T1.ok.notM hA), upd_same, none_of_sub T1.ok.sub hA, rfl⟩
    rcases hd with rfl | rfl | rfl
    · obtain ⟨a, xs, rfl, l1, l2⟩ := i1
      refine ⟨a, rfl, .inl ⟨⟨xs, l1.sq T1.ok.sub⟩, fun A hA => lc_list (xs := xs) (fun i => LcAt c G1 H1 A i (I i)) (start A hA) (fun i H' _ w => ?_) (fun i x H' e w => ?_) fun H' w => ?_⟩⟩
      · obtain ⟨G2, acc, ys, _, _, T2, _⟩ := w
        exact (l1.mono T2.ex).sq T2.ok.sub
      · obtain ⟨d, ed, id⟩ := IsL.back l2 e
        have : i < ds.length := (List.getElem?_eq_some_iff.mp ed).1
        exact lc_turn hA (S.trans T1) (R.step T1) (by omega) w id fun acc ha => hs i d acc ed ha
      · rw [IsL.len l2] at w
        exact lc_end hA T1.ok w fun G' v acc ha T' iv => hq G' H' v _ (he acc ha) (T1.trans T') iv
    · obtain ⟨a, xs, rfl, l1, l2⟩ := i1
      refine ⟨a, rfl, .inr ⟨⟨xs, l1.sq T1.ok.sub⟩, fun A hA => lc_tup (xs := xs) (fun i => LcAt c G1 H1 A i (I i)) (start A hA) (fun i H' _ w => ?_) (fun i x H' e w => ?_) fun H' w => ?_⟩⟩
      · obtain ⟨G2, acc, ys, _, _, T2, _⟩ := w
        exact (l1.mono T2.ex).sq T2.ok.sub
      · obtain ⟨d, ed, id⟩ := IsL.back l2 e
        have : i < ds.length := (List.getElem?_eq_some_iff.mp ed).1
        exact lc_turn hA (S.trans T1) (R.step T1) (by omega) w id fun acc ha => hs i d acc ed ha
      · rw [IsL.len l2] at w
        exact lc_end hA T1.ok w fun G' v acc ha T' iv => hq G' H' v _ (he acc ha) (T1.trans T') iv
    · obtain ⟨a, xs, rfl, l1, l2⟩ := i1
      refine ⟨a, rfl, .inl ⟨⟨xs, rd_sq T1.ok.sub l1⟩, fun A hA => lc_list (xs := xs) (fun i => LcAt c G1 H1 A i (I i)) (start A hA) (fun i H' _ w => ?_) (fun i x H' e w => ?_) fun H' w => ?_⟩⟩
      · obtain ⟨G2, acc, ys, _, _, T2, _⟩ := w
        exact rd_sq T2.ok.sub (rd_sq T2.ex l1)
      · obtain ⟨d, ed, id⟩ := IsL.back l2 e
        have : i < ds.length := (List.getElem?_eq_some_iff.mp ed).1
        exact lc_turn hA (S.trans T1) (R.step T1) (by omega) w id fun acc ha => hs i d acc ed ha
      · rw [IsL.len l2] at w
        exact lc_end hA T1.ok w fun G' v acc ha T' iv => hq G' H' v _ (he acc ha) (T1.trans T') iv
noncomputable abbrev lcF (Γ : Pgm) (ρ : Vars) (tg : Tg) (t e : EE) (vs : List Nat) (x : D) : Tr Xn (Option D) := match evalG false tg x (wipeV ρ vs) with
  | some ρ' => (evalE Γ t ρ').noX.bind fun | .bl true => (evalE Γ e ρ').noX.bind fun y => ret (some y) | .bl false => ret none | _ => bad
  | none => bad
theorem lc_snd (eK : κ.K = c.K.toKB) {tg : Tg} {t e : EE} {vs : List Nat} (hv : tg.inn vs = true) (ht : Snd c κ Γ Z t) (he : Snd c κ Γ Z e) (A : Abs c.K.toKB κ.sx q ρ) {P : D → Prop} {X : Xn → Prop} {x : D} {r acc : List D}
    (h : All (hdC c) P X (lcGo (lcF Γ ρ tg t e vs) (x :: r) acc)) : lcTurn c (denGp κ.K tg).1 (den κ t).t (den κ e).e vs q x acc fun acc' => All (hdC c) P X (lcGo (lcF Γ ρ tg t e vs) r acc') := by
  have h1 : All (hdC c) P X ((lcF Γ ρ tg t e vs x).bind fun | some y => lcGo (lcF Γ ρ tg t e vs) r (acc ++ [y]) | none => lcGo (lcF Γ ρ tg t e vs) r acc) := h
  unfold lcF at h1
  split at h1
  · rename_i ρ' hg
    refine (sndGw eK tg hv (wipeV ρ vs) ρ' (wipeS q vs) _ κ.sx (A.wipe vs) fun q2 A2 => ?_).1 x hg
    have h2 := h1.bind.bind.of_noX
    refine (ht q2 ρ' A2).ft (h2.mono (fun _ z => z) fun _ z => z.elim) fun d hd => ?_
    cases d with
    | bl b =>
      cases b with
      | true =>
        refine ⟨true, rfl, fun _ => ?_, fun z => nomatch z⟩
        exact (he q2 ρ' A2).e _ ((show All _ _ _ ((evalE Γ e ρ').noX.bind _) from hd).bind.of_noX.mono (fun y hy => hy) fun _ z => z.elim)
      | false => exact ⟨false, rfl, fun z => (nomatch z), fun _ => hd⟩
    | _ => exact hd.elim
  · exact h1.elim
theorem Sd.chgC (S : Sd c κ Γ) {c' : Cn} (e : c'.K = c.K) : Sd c' κ Γ :=
  ⟨by rw [S.eK, e], fun f vs H Q E z => by rw [e] at z; exact S.sp f vs H Q E z, S.ok, fun k G => by rw [e]; exact S.con k G, by rw [e, S.xf], fun vs H Q E z => by rw [e] at z; exact S.take vs H Q E z, by rw [e, S.fld], fun k hk => by rw [e]; exact S.cl k hk, fun k f vs H Q E z => by rw [e] at z; exact S.si k f vs H Q E z, fun a b r h => by rw [e]; exact S.sub a b r h, fun j k b h => by rw [e]; exact S.isc j k b h, fun k b h => by rw [e]; exact S.isn k b h⟩
mutual
theorem Is.tame {K : KT} {G : Hp} {p : Addr} {xs : List V} (hp : G p = some (.lst xs)) : ∀ (d : D) {v : V}, D.tame d = true → Is K G d v → Is K (butH G p) d v
  | .non, _, _, h => h
  | .bl _, _, _, h => h
  | .int _, _, _, h => h
  | .str _, _, _, h => h
  | .adr _, _, _, h => h
  | .ty _, _, _, h => h
  | .fn _, _, _, h => h
  | .cls _, _, _, h => h
  | .hand, _, _, h => h
  | .tup ds, _, t, ⟨a, ys, e, h1, h2⟩ => ⟨a, ys, e, h1.imp (fun z => by
      have ne : a ≠ p := fun q => by rw [q, hp] at z; cases z
      rw [butH_ne ne]; exact z) id, IsL.tame hp ds t h2⟩
  | .lst _, _, t, _ => nomatch t
  | .ins _ ds, _, t, ⟨a, dx, ys, e, h1, hl, h2⟩ => ⟨a, dx, ys, e, by
      have ne : a ≠ p := fun q => by rw [q, hp] at h1; cases h1
      rw [butH_ne ne]; exact h1, hl, IsL.tame hp ds t h2⟩
  | .exc _ _ _ _ _, _, t, _ => nomatch t
  | .scr _, _, t, _ => nomatch t
theorem IsL.tame {K : KT} {G : Hp} {p : Addr} {xs : List V} (hp : G p = some (.lst xs)) : ∀ (ds : List D) {vs : List V}, D.tameL ds = true → IsL K G ds vs → IsL K (butH G p) ds vs
  | [], _, _, h => h
  | d :: ds, _, t, ⟨x, r, e, h1, h2⟩ =>
    have t' := Bool.and_eq_true_iff.mp t
    ⟨x, r, e, Is.tame hp d t'.1 h1, IsL.tame hp ds t'.2 h2⟩
end
/-- what is known of the slots when one own list is lent out: nothing is written -/
theorem Rel.lend {K : KT} {W : Wd} {H0 G H : Hp} {s : L2.St} {q : List Sl} {i : Nat} {p : Addr} {ds : List D} {xs : List V} (r : Rel K W H0 G H s q) (hi : q[i]? = some (.own p ds)) (q1 : s[i]? = some (some (.ref p))) (q2 : H p = some (.lst xs)) (q3 : G p = none) (q6 : IsL K G ds xs) :
    Rel K W0 (fun _ => none) (upd G p (.lst xs)) H s (q.set i (.dat (.lst ds))) := by
  have e : Ex G (upd G p (.lst xs)) := Ex.new q3
  have hl : i < q.length := (List.getElem?_eq_some_iff.mp hi).1
  refine ⟨by simp [r.len], fun j d' z => ?_, fun j p' e' z => ?_, fun j k a b p' n za zb => (set_get za).elim (fun ⟨_, b⟩ => by cases b) fun ⟨_, e2⟩ => (set_get zb).elim (fun ⟨_, b⟩ => by cases b) fun ⟨_, e4⟩ => r.sep j k a b p' n e2 e4, fun p' dx k es z => ?_⟩
  · rcases set_get z with ⟨a, b⟩ | ⟨a, b⟩
    · subst a; cases b
      exact ⟨_, q1, p, xs, rfl, upd_same, IsL.mono e ds q6⟩
    · obtain ⟨v, a1, a2⟩ := r.dat j d' b
      exact ⟨v, a1, Is.mono e d' a2⟩
  · rcases set_get z with ⟨a, b⟩ | ⟨a, b⟩
    · cases b
    · obtain ⟨xs', w1, w2, w3, w4, w5, w6⟩ := r.own j p' e' b
      refine ⟨xs', w1, w2, ?_, rfl, id, IsL.mono e e' w6⟩
      rw [upd_ne (show p' ≠ p from fun z => r.sep i j ds e' p a hi (by rw [← z]; exact b))]
      exact w3
  · rcases set_get z with ⟨a, b⟩ | ⟨a, b⟩
    · cases b
    · obtain ⟨xs', w1, w2, w3, w4, w5, w6, w7⟩ := r.obj p' dx k es b
      refine ⟨xs', w1, w2, w3, ?_, rfl, id, IsL.mono e es w7⟩
      rw [upd_ne (show p' ≠ p from fun z => by rw [z, q2] at w2; cases w2)]
      exact w4
theorem Stp.back {W : Wd} {G H G1 H1 : Hp} {p : Addr} {o : HO} (ok : Ok W G H) (hp : H p = some o) (hg : G p = none) (T : Stp W0 (upd G p o) H G1 H1) : Stp W G H (butH G1 p) H1 := by
  have sub : Ex (butH G1 p) G1 := fun a u e => by
    by_cases z : a = p
    · rw [z, butH_eq] at e; cases e
    · rw [butH_ne z] at e; exact e
  have ex : Ex G (butH G1 p) := fun a u e => by
    have z : a ≠ p := fun z => by rw [z, hg] at e; cases e
    rw [butH_ne z]
    exact T.ex a u (by rw [upd_ne z]; exact e)
  have fr : ∀ a u, butH G1 p a = some u → G a = some u ∨ H a = none := fun a u e => by
    by_cases z : a = p
    · rw [z, butH_eq] at e; cases e
    · rw [butH_ne z] at e
      exact (T.fresh a u e).imp (fun y => by rw [upd_ne z] at y; exact y) id
  refine ⟨⟨sub.trans T.ok.sub, fun a m => ?_, fun a m => ?_, W.stb ok.inv ex fun a m => ?_⟩, ex, fr, fun a u _ e => T.kp a u id e, T.th⟩
  · cases z : butH G1 p a with
    | none => rfl
    | some u =>
      obtain ⟨o', l⟩ := ok.liv a m
      rcases fr a u z with y | y
      · rw [ok.cln a m] at y; cases y
      · rw [l] at y; cases y
  · obtain ⟨o', l⟩ := ok.liv a m
    exact ⟨o', T.kp a o' id l⟩
  · obtain ⟨o', l⟩ := ok.liv a m
    rw [l]; exact T.kp a o' id l
theorem wp_lend {P : D → Prop} {i : Nat} {p : Addr} {ds : List D} (hi : q[i]? = some (.own p ds)) (h : wpE ⟨c.K, W0, fun _ => none, fun _ => none, false⟩ te (q.set i (.dat (.lst ds))) fun d => D.tame d = true ∧ P d) : wpE c te q P := fun G H s S R Q hq => by
  obtain ⟨xs, e1, e2, e3, e4, e5, e6⟩ := R.own i p ds hi
  have ok' : Ok W0 (upd G p (.lst xs)) H := ⟨fun a u e => by
    by_cases z : a = p
    · subst z; rw [upd_same] at e; cases e; exact e2
    · rw [upd_ne z] at e; exact S.ok.sub a u e, fun _ m => m.elim, fun _ m => m.elim, trivial⟩
  have S' : Stp W0 (fun _ => none) (fun _ => none) (upd G p (.lst xs)) H := ⟨ok', fun _ _ e => (nomatch e), fun _ _ _ => .inr rfl, fun _ _ _ e => (nomatch e), fun _ _ e => (nomatch e)⟩
  refine h _ H s S' (R.lend hi e1 e2 e3 e6) Q fun G1 H1 v d hd T i1 => ?_
  have hp : G1 p = some (.lst xs) := T.ex _ _ upd_same
  exact hq (butH G1 p) H1 v d hd.2 (Stp.back S.ok e2 e3 T) (Is.tame hp d hd.1 i1)
theorem wp_lstO {i : Nat} {a : Addr} {ds : List D} {P : D → Prop} (hi : q[i]? = some (.own a ds)) (k : P (.lst ds)) : wpE c (tCB (crList c.K) (tCons (tVar i) tNil)) q P := fun G H s S R Q hq => by
  obtain ⟨xs, e1, e2, e3, e4, e5, e6⟩ := R.own i a ds hi
  refine ⟨_, e1, a, xs, rfl, .inl (.inl (.inl e2)), fun l hl => ?_⟩
  exact hq (upd G l (.lst xs)) _ _ _ k ((Stp.refl S.ok).lay hl) ⟨l, xs, rfl, upd_same, IsL.mono (Ex.new (none_of_sub S.ok.sub hl)) _ e6⟩
/-- what is walked, told by its items -/
def wpI (c : Cn) (wi : TI) (q : List Sl) (L : List D → Prop) : Prop := ∀ G H s, c.S G H → c.R G H s q → ∀ R : It → Hp → Prop,
  (∀ G1 H1 J Gd Y l, L l → Stp c.W G H G1 H1 → Walk J l.length Gd Y → (∀ G' H', Ex G1 G' → Ok c.W G' H' → Gd H') → (∀ (i : Nat) G' H' x H'', i < l.length → Ex G1 G' → Ok c.W G' H' → Y i H' x H'' → ∃ d, l[i]? = some d ∧ H'' = H' ∧ Is c.K G' d x) → R J H1) → wi s H R
theorem wi_seq {L : List D → Prop} (h : wpE c te q fun d => ∃ ds, (d = .lst ds ∨ d = .tup ds ∨ d = .scr ds) ∧ L ds) : wpI c (iSeq c.K te) q L := fun G H s S R Q hq =>
  h G H s S R _ fun G1 H1 v d h1 T1 i1 => by
    obtain ⟨ds, hd, hl⟩ := h1
    rcases hd with rfl | rfl | rfl
    · obtain ⟨a, xs, rfl, l1, l2⟩ := i1
      refine ⟨a, rfl, .inl ⟨⟨xs, l1.sq T1.ok.sub⟩, ?_⟩⟩
      refine hq G1 H1 _ _ _ ds hl T1 (by rw [← IsL.len l2]; exact walk_list) (fun G' H' e o => (l1.mono e).sq o.sub) fun i G' H' x H'' hi e o y => ?_
      obtain ⟨rfl, y⟩ := y
      obtain ⟨d, ed, id⟩ := IsL.back l2 y
      exact ⟨d, ed, rfl, Is.mono e _ id⟩
    · obtain ⟨a, xs, rfl, l1, l2⟩ := i1
      refine ⟨a, rfl, .inr ⟨⟨xs, l1.sq T1.ok.sub⟩, ?_⟩⟩
      refine hq G1 H1 _ _ _ ds hl T1 (by rw [← IsL.len l2]; exact walk_tup) (fun G' H' e o => (l1.mono e).sq o.sub) fun i G' H' x H'' hi e o y => ?_
      obtain ⟨rfl, y⟩ := y
      obtain ⟨d, ed, id⟩ := IsL.back l2 y
      exact ⟨d, ed, rfl, Is.mono e _ id⟩
    · obtain ⟨a, xs, rfl, l1, l2⟩ := i1
      refine ⟨a, rfl, .inl ⟨⟨xs, rd_sq T1.ok.sub l1⟩, ?_⟩⟩
      refine hq G1 H1 _ _ _ ds hl T1 (by rw [← IsL.len l2]; exact walk_list) (fun G' H' e o => rd_sq o.sub (rd_sq e l1)) fun i G' H' x H'' hi e o y => ?_
      obtain ⟨rfl, y⟩ := y
      obtain ⟨d, ed, id⟩ := IsL.back l2 y
      exact ⟨d, ed, rfl, Is.mono e _ id⟩
theorem wi_rng1 {ta : TA} {L : List D → Prop} (h : wpA c ta q fun ds => ∃ n : Int, ds = [.int n] ∧ -10000 ≤ n ∧ n ≤ 100000 ∧ L (rngL 0 n.toNat)) : wpI c (iRng1 ta) q L := fun G H s S R Q hq =>
  h G H s S R _ fun G1 H1 vs' ds h1 T1 i1 => by
    obtain ⟨n, rfl, n1, n2, hl⟩ := h1
    obtain ⟨v, rfl, iv⟩ := IsL.one_of i1
    cases (show v = V.int n from iv)
    refine ⟨n, rfl, by omega, by omega, ?_⟩
    refine hq G1 H1 _ _ _ _ hl T1 (by rw [rngL_len]; exact walk_range) (fun _ _ _ _ => trivial) fun i G' H' x H'' hi e o y => ?_
    obtain ⟨rfl, rfl⟩ := y
    rw [rngL_len] at hi
    exact ⟨_, rngL_get _ _ _ hi, rfl, rfl⟩
theorem wi_rng2 {ta : TA} {L : List D → Prop} (h : wpA c ta q fun ds => ∃ lo n : Int, ds = [.int lo, .int n] ∧ -10000 ≤ n ∧ n ≤ 10000 ∧ 0 ≤ lo ∧ lo ≤ 10000 ∧ L (rngL lo (n - lo).toNat)) : wpI c (iRng2 ta) q L := fun G H s S R Q hq =>
  h G H s S R _ fun G1 H1 vs' ds h1 T1 i1 => by
    obtain ⟨lo, n, rfl, n1, n2, n3, n4, hl⟩ := h1
    obtain ⟨v, w, rfl, iv, iw⟩ := IsL.two_of i1
    cases (show v = V.int lo from iv)
    cases (show w = V.int n from iw)
    refine ⟨lo, n, rfl, ⟨by omega, by omega, by omega, by omega⟩, ?_⟩
    refine hq G1 H1 _ _ _ _ hl T1 (by rw [rngL_len]; exact walk_range) (fun _ _ _ _ => trivial) fun i G' H' x H'' hi e o y => ?_
    obtain ⟨rfl, rfl⟩ := y
    rw [rngL_len] at hi
    exact ⟨_, rngL_get _ _ _ hi, rfl, rfl⟩
theorem sndI (S : Sd c κ Γ) {k : ItK} (hk : k.pl = true) {it : EE} (s4 : S4 c κ Γ Z it q ρ) {L : List D → Prop} (h : All (hdC c) (fun d => ∃ l, itemsOf k d = some l ∧ L l) (Z ρ) (evalE Γ it ρ)) : wpI c (denI κ.K k (den κ it)) q L := by
  cases k with
  | seq =>
    show wpI c (iSeq κ.K (den κ it).e) q L
    rw [show iSeq κ.K.K (den κ it).e = iSeq c.K (den κ it).e by rw [S.eK]]
    exact wi_seq (s4.fe h fun d ⟨l, e, hl⟩ => ⟨l, items_seq e, hl⟩)
  | rng1 =>
    refine wi_rng1 (s4.fa h fun d ⟨l, e, hl⟩ => ?_)
    obtain ⟨n, rfl, n1, n2, rfl⟩ := items_r1 e
    exact ⟨_, rfl, n, rfl, n1, n2, hl⟩
  | rng2 =>
    refine wi_rng2 (s4.fa h fun d ⟨l, e, hl⟩ => ?_)
    obtain ⟨a, b, rfl, n1, n2, n3, n4, rfl⟩ := items_r2 e
    exact ⟨_, rfl, a, b, rfl, n3, n4, n1, n2, hl⟩
  | _ => cases hk
/-- a turn of the first -/
def lcTurn2 (c : Cn) (g : TG) (tt : TT) (wi1 : TI) (g1 : TG) (tt1 : TT) (te : TE) (vs vs1 : List Nat) (q : List Sl) (x : D) (acc : List D) (J : List D → Prop) : Prop :=
  wpW c g vs x (wipeS q vs) fun q2 => OwnS (wipeS q vs) q2 ∧ wpT c tt q2 fun b => (b = false → J acc) ∧ (b = true → wpI c wi1 q2 fun l1 => acc.length + l1.length ≤ 10000 ∧ ∃ I1 : Nat → List D → Prop, I1 0 acc ∧
    (∀ (j : Nat) x1 acc1, l1[j]? = some x1 → I1 j acc1 → lcTurn c g1 tt1 te vs1 q2 x1 acc1 (I1 (j + 1))) ∧ ∀ acc1, I1 l1.length acc1 → J acc1)
theorem Rel.but {K : KT} {W : Wd} {H0 G H : Hp} {s : L2.St} {A : Addr} (r : Rel K W H0 G H s q) (h1 : ∀ (i : Nat) p ds, q[i]? = some (Sl.own p ds) → p ≠ A) (h2 : ∀ p dx k ds, q[0]? = some (Sl.obj p dx k ds) → p ≠ A) : Rel K W H0 G (butH H A) s q :=
  ⟨r.len, r.dat, fun i p ds e => by
    obtain ⟨xs, a, b, z⟩ := r.own i p ds e
    exact ⟨xs, a, by rw [butH_ne (h1 i p ds e)]; exact b, z⟩, r.sep, fun p dx k ds e => by
    obtain ⟨xs, a, b, z⟩ := r.obj p dx k ds e
    exact ⟨xs, a, by rw [butH_ne (h2 p dx k ds e)]; exact b, z⟩⟩
theorem Stp.butT {W : Wd} {G H G1 H1 : Hp} {A : Addr} (hA : H A = none) (hG : G1 A = none) (hm : ¬ W.M A) (T : Stp W G H G1 H1) : Stp W G H G1 (butH H1 A) := by
  refine ⟨⟨fun a u e => ?_, T.ok.cln, fun a m => ?_, W.stb T.ok.inv (Ex.refl _) fun a m => ?_⟩, T.ex, T.fresh, fun a u n e => ?_, fun a u e => ?_⟩
  · by_cases z : a = A
    · rw [z, hG] at e; cases e
    · rw [butH_ne z]; exact T.ok.sub a u e
  · have z : a ≠ A := fun e => hm (e ▸ m)
    rw [butH_ne z]; exact T.ok.liv a m
  · have z : a ≠ A := fun e => hm (e ▸ m)
    exact butH_ne z
  · have z : a ≠ A := fun e' => by rw [e', hA] at e; cases e
    rw [butH_ne z]; exact T.kp a u n e
  · have z : a ≠ A := fun e' => by rw [e', hA] at e; cases e
    rw [butH_ne z]; exact T.th a u e
theorem upd_butT {H : Hp} {A : Addr} {o : HO} (h : H A = some o) : upd (butH H A) A o = H := by
  funext a
  by_cases z : a = A
  · rw [z, upd_same, h]
  · rw [upd_ne z, butH_ne z]
theorem wp_lc2 {wi wi1 : TI} {g g1 : TG} {tt tt1 : TT} {te : TE} {vs vs1 : List Nat} {P : D → Prop} (h : wpI c wi q fun l => ∃ I : Nat → List D → Prop, I 0 [] ∧
    (∀ (i : Nat) x acc, l[i]? = some x → I i acc → lcTurn2 c g tt wi1 g1 tt1 te vs vs1 q x acc (I (i + 1))) ∧ ∀ acc, I l.length acc → P (.lst acc)) : wpE c (tLc2 wi g tt wi1 g1 tt1 te vs vs1) q P := fun G H s S R Q hq =>
  h G H s S R _ fun G1 H1 J Gd Y l hl T1 wk hG hY => by
    intro A hA
    obtain ⟨I, h0, hs, he⟩ := hl
    have mA : ¬ c.W.M A := T1.ok.notM hA
    have hA0 : c.H0 A = none := none_of_th (S.trans T1).th hA
    have hold : ∀ {G' H' G2 H2 : Hp} {xs : List V} {acc : List D}, H' A = some (.lst xs) → G' A = none → IsL c.K G' acc xs → Stp c.W G' H' G2 H2 → H2 A = some (.lst xs) ∧ G2 A = none ∧ IsL c.K G2 acc xs := fun {G' H' G2 H2 xs acc} a1 a2 a3 T' => by
      refine ⟨T'.kp A _ mA a1, ?_, IsL.mono T'.ex _ a3⟩
      cases z : G2 A with
      | none => rfl
      | some o =>
        rcases T'.fresh A o z with y | y
        · rw [a2] at y; cases y
        · rw [a1] at y; cases y
    refine ⟨fun i m H' => m = l.length - i ∧ i ≤ l.length ∧ ∃ b, LcAt c G1 H1 A b (I i) H', ⟨l.length, rfl, Nat.zero_le _, 0, G1, [], [], h0, Nat.le_refl 0, (Stp.refl T1.ok).put hA (none_of_sub T1.ok.sub hA) mA, upd_same, none_of_sub T1.ok.sub hA, rfl⟩, ?_⟩
    rintro i m H' ⟨rfl, hi, b0, w⟩
    have w' := w
    obtain ⟨G', acc, xs, ha, hl0, T, a1, a2, a3⟩ := w
    by_cases hlt : i < l.length
    · refine .inr ⟨wk.goes i H' hlt (hG G' H' T.ex T.ok), fun H'' => ∃ b, LcAt c G1 H1 A b (I (i + 1)) H'', fun H'' p' => ⟨l.length - (i + 1), by omega, rfl, hlt, p'⟩, fun x H'' y => ?_⟩
      obtain ⟨d, ed, rfl, id⟩ := hY i G' H' x H'' hlt T.ex T.ok (wk.yields i H' x H'' hlt (hG G' H' T.ex T.ok) y)
      refine hs i d acc ed ha G' H'' _ x T.ok ((R.step (T1.trans T)).wipe vs) id _ fun s2 q2 hN e2 R2 => ⟨by rw [e2, wipe_wipe fun _ z => z], ?_⟩
      obtain ⟨ow, h2⟩ := hN
      refine h2 G' H'' s2 (S.trans (T1.trans T)) R2 _ fun G3 H3 b h3 T3 => ?_
      obtain ⟨b1, b2, b3⟩ := hold a1 a2 a3 T3
      cases b with
      | false =>
        have z : ∃ b, LcAt c G1 H1 A b (I (i + 1)) H3 := ⟨b0, G3, acc, xs, h3.1 rfl, hl0, T.trans T3, b1, b2, b3⟩
        first
          | exact z
          | (rw [if_neg (by decide)]; exact z)
      | true =>
        have z : wi1 s2 H3 fun J1 H4 => ∃ W1 : Nat → Nat → Hp → Prop, (∃ m, W1 0 m H4) ∧ ∀ j k H, W1 j k H →
            (J1.stop j H ∧ ∃ b, LcAt c G1 H1 A b (I (i + 1)) H) ∨ (J1.go j H ∧ ∃ Nx1 : Hp → Prop, (∀ H', Nx1 H' → ∃ k', k' < k ∧ W1 (j + 1) k' H') ∧ ∀ x H', J1.yld j H x H' → g1 x (L2.wipe s2 vs1) H' fun σ3 H5 => L2.wipe σ3 vs1 = L2.wipe s2 vs1 ∧ tt1 σ3 H5 fun b H6 =>
              if b = true then te σ3 H6 fun y H7 => ∃ acc, H7 A = some (.lst acc) ∧ acc.length < sizeLine ∧ Nx1 (upd H7 A (.lst (acc ++ [y]))) else Nx1 H6) := by
          refine h3.2 rfl G3 H3 s2 ((S.trans (T1.trans T)).trans T3) (R2.step T3) _ fun G4 H4 J1 Gd1 Y1 l1 hl1 T4 wk1 hG1 hY1 => ?_
          obtain ⟨hb, I1, i0, i1, ie⟩ := hl1
          obtain ⟨c1, c2, c3⟩ := hold b1 b2 b3 T4
          have R4 := (R2.step T3).step T4
          have own : ∀ (i : Nat) p ds, q2[i]? = some (Sl.own p ds) → p ≠ A := fun i p ds e => by
            obtain ⟨j, ej⟩ := ((OwnS.wipe q vs).trans ow).1 i p ds e
            obtain ⟨xs', _, z, _⟩ := (R.step T1).own j p ds ej
            intro e'; rw [e', hA] at z; cases z
          have obj : ∀ p dx k ds, q2[0]? = some (Sl.obj p dx k ds) → p ≠ A := fun p dx k ds e => by
            obtain ⟨xs', _, z, _⟩ := (R.step T1).obj p dx k ds (((OwnS.wipe q vs).trans ow).2 p dx k ds e)
            intro e'; rw [e', hA] at z; cases z
          have T14 : Stp c.W G1 H1 G4 (butH H4 A) := Stp.butT hA c2 mA ((T.trans T3).trans T4)
          have S4' : c.S G4 (butH H4 A) := (S.trans T1).trans T14
          have R4' : c.R G4 (butH H4 A) s2 q2 := Rel.but R4 own obj
          have hA4 : (butH H4 A) A = none := butH_eq
          have st : Stp c.W G4 (butH H4 A) G4 H4 := by
            have := (Stp.refl T14.ok).put (o := .lst xs) hA4 c2 mA
            rw [upd_butT c1] at this
            exact this
          refine ⟨fun j m H' => m = l1.length - j ∧ j ≤ l1.length ∧ LcAt c G4 (butH H4 A) A (acc.length + j) (I1 j) H', ⟨l1.length, rfl, Nat.zero_le _, G4, acc, xs, i0, Nat.le_refl _, st, c1, c2, c3⟩, ?_⟩
          rintro j k H5 ⟨rfl, hj, w5⟩
          obtain ⟨G5, acc5, xs5, ha5, hl5, T5, d1, d2, d3⟩ := w5
          by_cases hlt1 : j < l1.length
          · refine .inr ⟨wk1.goes j H5 hlt1 (hG1 G5 H5 T5.ex T5.ok), LcAt c G4 (butH H4 A) A (acc.length + j + 1) (I1 (j + 1)), fun H6 p' => ⟨l1.length - (j + 1), by omega, rfl, hlt1, p'⟩, fun x1 H6 y => ?_⟩
            obtain ⟨d, ed, rfl, id⟩ := hY1 j G5 H5 x1 H6 hlt1 T5.ex T5.ok (wk1.yields j H5 x1 H6 hlt1 (hG1 G5 H5 T5.ex T5.ok) y)
            exact lc_turnX hA4 S4' R4' (by omega) ⟨G5, acc5, xs5, ha5, hl5, T5, d1, d2, d3, id⟩ fun acc' ha' => i1 j d acc' ed ha'
          · have e : j = l1.length := by omega
            subst e
            exact .inl ⟨wk1.stops H5 (hG1 G5 H5 T5.ex T5.ok), _, G5, acc5, xs5, ie acc5 ha5, hl5, T14.trans T5, d1, d2, d3⟩
        first
          | exact z
          | (rw [if_pos rfl]; exact z)
    · have e : i = l.length := by omega
      subst e
      exact .inl ⟨wk.stops H' (hG G' H' T.ex T.ok), lc_end hA T1.ok w' fun G' v acc ha T' iv => hq G' H' v _ (he acc ha) (T1.trans T') iv⟩
theorem lc2_snd (S : Sd c κ Γ) {k1 : ItK} {tg tg1 : Tg} {t it1 t1 e : EE} {vs vs1 : List Nat} (hk : k1.pl = true) (hv : tg.inn vs = true) (hv1 : tg1.inn vs1 = true) (ht : Snd c κ Γ Z t) (hi : Snd c κ Γ Z it1) (ht1 : Snd c κ Γ Z t1) (he : Snd c κ Γ Z e) (A : Abs c.K.toKB κ.sx q ρ) {P : D → Prop} {X : Xn → Prop} {x : D} {r acc : List D}
    (h : All (hdC c) P X (lcGo2 (lc2F k1 tg tg1 vs vs1 (evalE Γ t) (evalE Γ it1) (evalE Γ t1) (evalE Γ e) ρ) (x :: r) acc)) :
    lcTurn2 c (denGp κ.K tg).1 (den κ t).t (denI κ.K k1 (den κ it1)) (denGp κ.K tg1).1 (den κ t1).t (den κ e).e vs vs1 q x acc fun acc' => All (hdC c) P X (lcGo2 (lc2F k1 tg tg1 vs vs1 (evalE Γ t) (evalE Γ it1) (evalE Γ t1) (evalE Γ e) ρ) r acc') := by
  have h1 : All (hdC c) P X ((lc2F k1 tg tg1 vs vs1 (evalE Γ t) (evalE Γ it1) (evalE Γ t1) (evalE Γ e) ρ x acc).bind fun | .lst acc' => lcGo2 (lc2F k1 tg tg1 vs vs1 (evalE Γ t) (evalE Γ it1) (evalE Γ t1) (evalE Γ e) ρ) r acc' | _ => bad) := h
  unfold lc2F at h1
  split at h1
  · rename_i ρ' hg
    refine (sndGwO S.eK tg hv (wipeV ρ vs) ρ' (wipeS q vs) _ κ.sx (A.wipe vs) fun q2 A2 ow => ⟨ow, ?_⟩).1 x hg
    have h2 := h1.bind.bind.of_noX
    refine (ht q2 ρ' A2).ft (h2.mono (fun _ z => z) fun _ z => z.elim) fun d hd => ?_
    cases d with
    | bl b =>
      cases b with
      | false => exact ⟨false, rfl, fun _ => hd, fun z => nomatch z⟩
      | true =>
        refine ⟨true, rfl, fun z => (nomatch z), fun _ => ?_⟩
        have h3 := (show All _ _ _ ((evalE Γ it1 ρ').noX.bind _) from hd).bind.of_noX
        refine sndI S hk (hi q2 ρ' A2) (h3.mono (fun d1 hd1 => ?_) fun _ z => z.elim)
        split at hd1
        · rename_i l1 e1
          obtain ⟨hb, h4⟩ := all_ite hd1
          refine ⟨l1, e1, hb, fun j acc1 => All (hdC c) (fun a => All (hdC c) P X (match a with | .lst acc' => lcGo2 (lc2F k1 tg tg1 vs vs1 (evalE Γ t) (evalE Γ it1) (evalE Γ t1) (evalE Γ e) ρ) r acc' | _ => bad)) X (lcGo (lcF Γ ρ' tg1 t1 e vs1) (l1.drop j) acc1), h4, fun j x1 acc1 hx hI => ?_, fun acc1 hI => ?_⟩
          · have hI : All (hdC c) _ X (lcGo (lcF Γ ρ' tg1 t1 e vs1) (l1.drop j) acc1) := hI
            rw [drop_at hx] at hI
            exact lc_snd S.eK hv1 ht1 he A2 hI
          · have hI : All (hdC c) _ X (lcGo (lcF Γ ρ' tg1 t1 e vs1) (l1.drop l1.length) acc1) := hI
            rw [List.drop_length] at hI
            exact hI
        · exact hd1.elim
    | _ => exact hd.elim
  · exact h1.elim
theorem sndE {c : Cn} {κ : Dn} {Γ : Pgm} {Z : Vars → Xn → Prop} (S : Sd c κ Γ) (hz : SnkOk c κ Z) : ∀ e : EE, Snd c κ Γ Z e
  | .lc2 k it tg t k1 it1 tg1 t1 e vs vs1 => fun q ρ A => .of S rfl fun P h => by
      obtain ⟨⟨h1, h2, h3, h4⟩, h5⟩ := all_ite (show All (hdC c) P (Z ρ) (if k.pl = true ∧ k1.pl = true ∧ tg.inn vs = true ∧ tg1.inn vs1 = true then _ else bad) from h)
      refine wp_lc2 (sndI S h1 (sndE S hz it q ρ A) (h5.bind.mono (fun d hd => ?_) fun _ z => z))
      split at hd
      · rename_i l e1
        refine ⟨l, e1, fun i acc => All (hdC c) P (Z ρ) (lcGo2 (lc2F k1 tg tg1 vs vs1 (evalE Γ t) (evalE Γ it1) (evalE Γ t1) (evalE Γ e) ρ) (l.drop i) acc), hd, fun i x acc hx hI => ?_, fun acc hI => ?_⟩
        · have hI : All (hdC c) P (Z ρ) (lcGo2 (lc2F k1 tg tg1 vs vs1 (evalE Γ t) (evalE Γ it1) (evalE Γ t1) (evalE Γ e) ρ) (l.drop i) acc) := hI
          rw [drop_at hx] at hI
          exact lc2_snd S h2 h3 h4 (sndE S hz t) (sndE S hz it1) (sndE S hz t1) (sndE S hz e) A hI
        · have hI : All (hdC c) P (Z ρ) (lcGo2 (lc2F k1 tg tg1 vs vs1 (evalE Γ t) (evalE Γ it1) (evalE Γ t1) (evalE Γ e) ρ) (l.drop l.length) acc) := hI
          rw [List.drop_length] at hI
          exact hI
      · exact hd.elim
  | .lend i a => fun q ρ A => .of S rfl fun P h => by
      have h : All (hdC c) P (Z ρ) (match ρ[i]? with
        | some (.own ds) => (evalE Γ a (ρ.set i (.dat (.lst ds)))).noX.noD.bind tameR
        | some (.dat _) => evalE Γ a ρ
        | _ => bad) := h
      split at h
      · rename_i ds e1
        obtain ⟨p, e2⟩ := A.own e1
        have h1 := (h.bind.of_noD (hd' := hdC ⟨c.K, W0, fun _ => none, fun _ => none, false⟩)).of_noX
        refine wp_lend e2 ((sndE (c := ⟨c.K, W0, fun _ => none, fun _ => none, false⟩) (Z := fun _ _ => False) (S.chgC rfl) (fun _ _ _ _ _ _ _ _ z => z.elim) a (q.set i (.dat (.lst ds))) (ρ.set i (.dat (.lst ds))) (A.set (show AbsV c.K.toKB κ.sx (.dat (.lst ds)) (.dat (.lst ds)) from rfl))).fe h1 fun d hd => ?_)
        exact all_ite (show All (hdC c) P (Z ρ) (if d.tame = true then ret d else bad) from hd)
      · exact (sndE S hz a q ρ A).e P h
      · exact h.elim
  | .lstO i => fun q ρ A => .of S rfl fun P h => by
      show wpE c (tCB (crList κ.K) _) q P
      rw [S.eK]
      have h0 := h.bind
      unfold getO at h0
      split at h0
      · rename_i d e
        exact wp_cb (wp_cons (wp_var (A.dat e) (wp_nil (cbB (b := .list) h0))))
      · rename_i ds e
        obtain ⟨p, e⟩ := A.own e
        exact wp_lstO e h0
      · exact h0.elim
  | .var i => fun q ρ A => .of S rfl fun P h => by
      have h : All (hdC c) P (Z ρ) (getV ρ i) := h
      unfold getV at h
      split at h
      · rename_i e; exact wp_var (A.dat e) h
      · exact h.elim
  | .lit d => fun q ρ A => .of S rfl fun P h => by
      cases d with
      | non => exact wp_non h
      | bl b => exact wp_bl h
      | int i => exact wp_int h
      | str x => exact wp_str h
      | _ => exact (show False from h).elim
  | .con k => fun q ρ A => .of S rfl fun P h => wp_ref (S.con k) h
  | .fnv f => fun q ρ A => .of S rfl fun P h => wp_ref (d := .fn f) (fun G => by rw [S.eK]; rfl) h
  | .clv f => fun q ρ A => .of S rfl fun P h => wp_ref (d := .cls f) (fun G => by rw [S.eK]; rfl) h
  | .op o a b => fun q ρ A => .of S rfl fun P h => wp_op ((sndE S hz a q ρ A).fe h.bind fun x hx => (sndE S hz b q ρ A).fe hx.bind fun y hy => by
      rw [S.eK]; exact od2 hy)
  | .neg a => fun q ρ A => .of S rfl fun P h => wp_un ((sndE S hz a q ρ A).fe h.bind fun x hx => by
      cases x <;> first | exact ud_neg hx | exact hx.elim)
  | .and a b => fun q ρ A => .wt S rfl (fun P h => wp_andV ((sndE S hz a q ρ A).fe h.bind fun x hx => by
      cases x with
      | bl v => cases v with
        | true => exact ⟨true, rfl, fun _ => (sndE S hz b q ρ A).e _ hx, fun z => nomatch z⟩
        | false => exact ⟨false, rfl, fun z => (nomatch z), fun _ => hx⟩
      | _ => exact hx.elim)) fun B h => wt_and ((sndE S hz a q ρ A).ft h.bind (fun x hx => by
      cases x with
      | bl v => cases v with
        | true => exact ⟨true, rfl, fun _ => (sndE S hz b q ρ A).t _ hx, fun z => nomatch z⟩
        | false =>
          obtain ⟨_, e, hx⟩ := (show IsB B (.bl false) from hx)
          cases e; exact ⟨false, rfl, fun z => (nomatch z), fun _ => hx⟩
      | _ => exact hx.elim))
  | .or a b => fun q ρ A => .wt S rfl (fun P h => wp_orV ((sndE S hz a q ρ A).fe h.bind fun x hx => by
      cases x with
      | bl v => cases v with
        | false => exact ⟨false, rfl, fun _ => (sndE S hz b q ρ A).e _ hx, fun z => nomatch z⟩
        | true => exact ⟨true, rfl, fun z => (nomatch z), fun _ => hx⟩
      | _ => exact hx.elim)) fun B h => wt_or ((sndE S hz a q ρ A).ft h.bind (fun x hx => by
      cases x with
      | bl v => cases v with
        | false => exact ⟨false, rfl, fun _ => (sndE S hz b q ρ A).t _ hx, fun z => nomatch z⟩
        | true =>
          obtain ⟨_, e, hx⟩ := (show IsB B (.bl true) from hx)
          cases e; exact ⟨true, rfl, fun z => (nomatch z), fun _ => hx⟩
      | _ => exact hx.elim))
  | .not a => fun q ρ A => .wt S rfl (fun P h => wp_notV ((sndE S hz a q ρ A).fe h.bind fun x hx => by
      cases x with
      | bl v => exact ⟨v, rfl, hx⟩
      | _ => exact hx.elim)) fun B h => wt_not ((sndE S hz a q ρ A).ft h.bind (fun x hx => by
      cases x with
      | bl v =>
        obtain ⟨_, e, hx⟩ := (show IsB B (.bl (!v)) from hx)
        cases e; exact ⟨v, rfl, hx⟩
      | _ => exact hx.elim))
  | .notT a => fun q ρ A => .of S rfl fun P h => by
      show wpE c (tNotT κ.K (den κ a).e) q P
      rw [S.eK]
      refine wp_notT ((sndE S hz a q ρ A).fe h.bind fun x hx => ?_)
      cases x with
      | lst l => exact ⟨l.isEmpty, rfl, by simpa [truD, All] using hx⟩
      | tup l => exact ⟨l.isEmpty, rfl, by simpa [truD, All] using hx⟩
      | non => exact ⟨true, rfl, hx⟩
      | bl b => exact ⟨!b, rfl, hx⟩
      | int i => exact ⟨i == 0, rfl, by simpa [truD, All] using hx⟩
      | _ => exact hx.elim
  | .isN a => fun q ρ A => .of S rfl fun P h => wp_isN ((sndE S hz a q ρ A).fe h.bind fun x hx => hx)
  | .notN a => fun q ρ A => .of S rfl fun P h => wp_notN ((sndE S hz a q ρ A).fe h.bind fun x hx => hx)
  | .tru a => fun q ρ A => .wt S rfl (fun P h => by
      show wpE c (tNotV (tNotT κ.K (den κ a).e)) q P
      rw [S.eK]
      refine wp_notV (wp_notT ((sndE S hz a q ρ A).fe h.bind fun x hx => ?_))
      cases x with
      | lst l => exact ⟨l.isEmpty, rfl, _, rfl, by simpa [truD, All] using hx⟩
      | tup l => exact ⟨l.isEmpty, rfl, _, rfl, by simpa [truD, All] using hx⟩
      | non => exact ⟨true, rfl, _, rfl, hx⟩
      | bl b => exact ⟨!b, rfl, _, rfl, by rw [Bool.not_not]; exact hx⟩
      | int i => exact ⟨i == 0, rfl, _, rfl, by simpa [truD, All] using hx⟩
      | _ => exact hx.elim) fun B h => by
      show wpT c (fun σ H Q => (den κ a).e σ H fun x H' => ∃ k, TruV κ.K x H' k ∧ Q k H') q B
      rw [S.eK]
      refine wt_tru ((sndE S hz a q ρ A).fe h.bind fun x hx => ?_)
      cases x with
      | lst l =>
        obtain ⟨_, e, hx⟩ := (show IsB B (.bl (!l.isEmpty)) from hx)
        cases e; exact ⟨l.isEmpty, rfl, hx⟩
      | tup l =>
        obtain ⟨_, e, hx⟩ := (show IsB B (.bl (!l.isEmpty)) from hx)
        cases e; exact ⟨l.isEmpty, rfl, hx⟩
      | non =>
        obtain ⟨_, e, hx⟩ := (show IsB B (.bl false) from hx)
        cases e; exact ⟨true, rfl, hx⟩
      | bl b =>
        obtain ⟨_, e, hx⟩ := (show IsB B (.bl b) from hx)
        cases e; exact ⟨!b, rfl, by rw [Bool.not_not]; exact hx⟩
      | int i =>
        obtain ⟨_, e, hx⟩ := (show IsB B (.bl (!(i == 0))) from hx)
        cases e; exact ⟨i == 0, rfl, hx⟩
      | _ => exact hx.elim
  | .chain o o' a b k => fun q ρ A => .of S rfl fun P h => by
      show wpE c (tChain (den2 κ.K o) (den2 κ.K o') (den κ a).e (den κ b).e (den κ k).e) q P
      rw [S.eK]
      refine wp_chain ((sndE S hz a q ρ A).fe h.bind fun x hx => (sndE S hz b q ρ A).fe hx.bind fun y hy => od2 (hd := hdC c) (Zx := Z ρ) (hy.bind.mono (fun z hz' => ?_) fun _ z => z))
      cases z with
      | bl v => cases v with
        | true => exact ⟨true, rfl, fun _ => mono_e ((sndE S hz k q ρ A).e _ (show All _ _ _ ((evalE Γ k ρ).bind _) from hz').bind) fun w hw => od2 hw, fun z => nomatch z⟩
        | false => exact ⟨false, rfl, fun z => (nomatch z), fun _ => hz'⟩
      | _ => exact hz'.elim
  | .ifx t a b => fun q ρ A => .of S rfl fun P h => wp_if ((sndE S hz t q ρ A).ft h.bind (fun x hx => by
      cases x with
      | bl v => cases v with
        | true => exact ⟨true, rfl, fun _ => (sndE S hz a q ρ A).e _ hx, fun z => nomatch z⟩
        | false => exact ⟨false, rfl, fun z => (nomatch z), fun _ => (sndE S hz b q ρ A).e _ hx⟩
      | _ => exact hx.elim))
  | .nil => fun q ρ A => by
      have e : ∀ P, All (hdC c) P (Z ρ) (evalE Γ .nil ρ) → wpE c (tTup tNil) q P := fun P h => wp_tup (wp_nil ⟨by decide, h⟩)
      exact ⟨e, fun B h => wt_B (e _ h), fun L h => wp_nil (by obtain ⟨_, e, k⟩ := (show IsT L (.tup []) from h); cases e; exact k), fun O h => wo_of (e _ h)⟩
  | .cons a b => fun q ρ A => by
      have e : ∀ P, All (hdC c) P (Z ρ) (evalE Γ (.cons a b) ρ) → wpE c (tTup (tCons (den κ a).e (den κ b).a)) q P := fun P h =>
        wp_tup (wp_cons ((sndE S hz a q ρ A).fe h.bind fun x hx => (sndE S hz b q ρ A).fa hx.bind fun y hy => by
          cases y with
          | tup xs => obtain ⟨h1, h2⟩ := all_ite hy; exact ⟨xs, rfl, by rw [List.length_cons]; omega, h2⟩
          | _ => exact hy.elim))
      exact ⟨e, fun B h => wt_B (e _ h), fun L h => wp_cons ((sndE S hz a q ρ A).fe h.bind fun x hx => (sndE S hz b q ρ A).fa hx.bind fun y hy => by
          cases y with
          | tup xs =>
            obtain ⟨h1, h2⟩ := all_ite hy
            obtain ⟨_, e, k⟩ := (show IsT L (.tup (x :: xs)) from h2)
            cases e; exact ⟨xs, rfl, k⟩
          | _ => exact hy.elim), fun O h => wo_of (e _ h)⟩
  | .star a b => fun q ρ A => by
      have hF : κ.K.K = c.K.toKB.K := by rw [S.eK]
      have key : ∀ {P : D → Prop}, All (hdC c) P (Z ρ) (evalE Γ (.star a b) ρ) → wpA c (StX.tStar κ.K.K (den κ a).e (den κ b).a) q fun xs => xs.length ≤ 10000 ∧ P (.tup xs) := fun {P} h =>
        wp_star hF ((sndE S hz a q ρ A).fe h.bind fun x hx => by
          cases e : seqL x with
          | none => rw [e] at hx; exact hx.elim
          | some l =>
            rw [e] at hx
            refine ⟨l, rfl, (sndE S hz b q ρ A).fa hx.bind fun y hy => ?_⟩
            cases y with
            | tup xs => obtain ⟨h1, h2⟩ := all_ite hy; exact ⟨xs, rfl, by rw [List.length_append]; exact h1, h2⟩
            | _ => exact hy.elim)
      have e : ∀ P, All (hdC c) P (Z ρ) (evalE Γ (.star a b) ρ) → wpE c (tTup (StX.tStar κ.K.K (den κ a).e (den κ b).a)) q P := fun P h => wp_tup (key h)
      exact ⟨e, fun B h => wt_B (e _ h), fun L h => wa_mono (key h) fun xs z => by
        obtain ⟨_, ez, k⟩ := (show IsT L (.tup xs) from z.2)
        cases ez; exact k, fun O h => wo_of (e _ h)⟩
  | .tup a => fun q ρ A => .of S rfl fun P h => wp_tup ((sndE S hz a q ρ A).fa h.bind fun x hx => by
      cases x with
      | tup xs => exact ⟨xs, rfl, all_ite hx⟩
      | _ => exact hx.elim)
  | .lst a => fun q ρ A => .of S rfl fun P h => wp_lst ((sndE S hz a q ρ A).fa h.bind fun x hx => by
      cases x with
      | tup xs => exact ⟨xs, rfl, all_ite hx⟩
      | _ => exact hx.elim)
  | .bk0 a => fun q ρ A => .of S rfl fun P h => by
      show wpE c (tBk κ.K (den κ a).e) q P
      rw [S.eK]
      refine wp_bk ((sndE S hz a q ρ A).fe h.bind fun x hx => ?_)
      cases x with
      | tup l => exact ⟨l, rfl, hx⟩
      | _ => exact hx.elim
  | .slc a lo hi => fun q ρ A => .of S rfl fun P h => by
      show wpE c (tSl (rSlQ κ.K) (den κ a).e (den κ lo).o (den κ hi).o) q P
      rw [S.eK]
      refine wp_slQ ((sndE S hz a q ρ A).fe h.bind fun x hx => (sndE S hz lo q ρ A).fo hx.bind fun l hl => ?_)
      split at hl
      · exact hl.elim
      · rename_i lo' e
        have k : wpO c (den κ hi).o q fun hi' => ∃ ds, (x = .lst ds ∧ P (.lst (cutD ds lo' hi'))) ∨ (x = .tup ds ∧ P (.tup (cutD ds lo' hi'))) := (sndE S hz hi q ρ A).fo hl.bind fun y hy => by
          split at hy
          · exact hy.elim
          · rename_i hi' e2
            have kk : ∃ ds, (x = .lst ds ∧ P (.lst (cutD ds lo' hi'))) ∨ (x = .tup ds ∧ P (.tup (cutD ds lo' hi'))) := by
              cases x with
              | lst ds => exact ⟨ds, .inl ⟨rfl, hy⟩⟩
              | tup ds => exact ⟨ds, .inr ⟨rfl, hy⟩⟩
              | _ => exact (show False from hy).elim
            cases y with
            | int i => cases e2; exact .inr ⟨i, rfl, kk⟩
            | non => cases e2; exact .inl ⟨rfl, kk⟩
            | _ => cases e2
        cases l with
        | int i => cases e; exact .inr ⟨i, rfl, k⟩
        | non => cases e; exact .inl ⟨rfl, k⟩
        | _ => cases e
  | .nop => fun q ρ A => by
      have e : ∀ P, All (hdC c) P (Z ρ) (evalE Γ .nop ρ) → wpE c (tC .non) q P := fun P h => wp_non h
      exact ⟨e, fun B h => wt_B (e _ h), fun L h => by show wpA c (taOf κ.K (tC .non)) q L; rw [S.eK]; exact wa_of (e _ h), fun O h => wo_none (by
        rcases (show IsO O .non from h) with ⟨_, k⟩ | ⟨_, e, _⟩
        · exact k
        · cases e)⟩
  | .part a => fun q ρ A => by
      have e : ∀ P, All (hdC c) P (Z ρ) (evalE Γ (.part a) ρ) → wpE c (den κ a).e q P := fun P h => (sndE S hz a q ρ A).fe h.bind fun x hx => by
        cases x with
        | int i => exact hx
        | _ => exact hx.elim
      exact ⟨e, fun B h => wt_B (e _ h), fun L h => by show wpA c (taOf κ.K (den κ a).e) q L; rw [S.eK]; exact wa_of (e _ h), fun O h => wo_some ((sndE S hz a q ρ A).fe h.bind fun x hx => by
        cases x with
        | int i =>
          rcases (show IsO O (.int i) from hx) with ⟨e, _⟩ | ⟨_, e, k⟩
          · cases e
          · cases e; exact ⟨i, rfl, k⟩
        | _ => exact hx.elim)⟩
  | .call f sk dvs a => fun q ρ A => .of S rfl fun P h => fun G H s Sp R Q hq =>
      (sndE S hz a q ρ A).fa (L := fun ds => dvs.all scaV = true ∧ All (hdC c) P (Z ρ) (if sk then Γ.call f (ds ++ dvs.map dOf) else (Γ.call f (ds ++ dvs.map dOf)).noX)) h.bind (fun x hx => by
        cases x with
        | tup xs => exact ⟨xs, rfl, all_ite hx⟩
        | _ => exact hx.elim) G H s Sp R _ fun G1 H1 vs ds h1 T1 i1 =>
          sp_run S hz (Sp.trans T1) (R.step T1) A (IsL.app i1 (isDef h1.1)) h1.2 fun G2 H2 v d p T2 i2 => hq G2 H2 v d p (T1.trans T2) i2
  | .newO k f sk a => fun q ρ A => .of S rfl fun P h => fun G H s Sp R Q hq => by
      show tMakeS (κ.K.cls k) (κ.si k f) (cond sk κ.snk.at Snk.no.at) (den κ a).a s H Q
      rw [show κ.K.cls k = c.K.cls k by rw [S.eK]]
      exact (sndE S hz a q ρ A).fa (L := fun ds => All (hdC c) P (Z ρ) (if sk then Γ.call f ds else (Γ.call f ds).noX)) h.bind (fun x hx => by
        cases x with
        | tup xs => exact ⟨xs, rfl, hx⟩
        | _ => exact hx.elim) G H s Sp R _ fun G1 H1 vs ds h1 T1 i1 x dx hx hd ne =>
          sp_new S hz (Sp.trans T1) (R.step T1) A i1 h1 (fun G2 H2 v d p T2 i2 => hq G2 H2 v d p (T1.trans T2) i2) hx hd ne
  | .callV i sk a => fun q ρ A => .of S rfl fun P h => fun G H s Sp R Q hq => by
      have h0 := h.bind
      unfold getV at h0
      generalize e : ρ[i]? = o at h0
      cases o with
      | none => exact (show False from h0).elim
      | some sv =>
      cases sv with
      | dat d =>
        cases d with
        | fn f =>
          obtain ⟨ho, h1⟩ := all_ite (show All (hdC c) P (Z ρ) (if Γ.ok f = true then _ else bad) from h0)
          obtain ⟨v, e1, e2⟩ := R.dat i _ (A.dat e)
          cases (show v = V.ref (c.K.fn f) from e2)
          refine ⟨f, by rw [S.ok]; exact ho, by rw [S.eK]; exact e1, ?_⟩
          exact (sndE S hz a q ρ A).fa (L := fun ds => All (hdC c) P (Z ρ) (if sk then Γ.call f ds else (Γ.call f ds).noX)) h1.bind (fun x hx => by
            cases x with
            | tup xs => exact ⟨xs, rfl, hx⟩
            | _ => exact hx.elim) G H s Sp R _ fun G1 H1 vs ds h1 T1 i1 =>
              sp_run S hz (Sp.trans T1) (R.step T1) A i1 h1 fun G2 H2 v d p T2 i2 => hq G2 H2 v d p (T1.trans T2) i2
        | _ => exact (show False from h0).elim
      | _ => exact (show False from h0).elim
  | .take a => fun q ρ A => .of S rfl fun P h => by
      show wpE c (tCall κ.take [] E0 (den κ a).a) q P
      intro G H s Sp R Q hq
      refine (sndE S hz a q ρ A).fa (L := fun ds => ∃ m, ds = [.hand, .int m] ∧ hdC c ∧ 0 < m ∧ m.natAbs < 2 ^ 8000 ∧ ∀ v, 0 ≤ v → v < m → P (.int v)) h.bind (fun x hx => ?_) G H s Sp R _ fun G1 H1 vs ds h1 T1 i1 => ?_
      · match x, hx with
        | .tup [.hand, .int m], ⟨h1, h2, h3, h4⟩ => exact ⟨_, rfl, m, rfl, h1, h2, h3, h4⟩
      · obtain ⟨m, rfl, k1, k2, k3, k4⟩ := h1
        refine S.take _ _ _ _ ⟨c.W, G1, [.adr c.K.hand, .int m], T1.ok, ?_, ⟨c.K.hand, m, rfl, rfl, k2, k3, k1⟩, fun G2 H2 v d hd T2 i2 => ?_, fun _ _ _ _ _ _ _ z => z.elim⟩
        · rw [List.append_nil]
          obtain ⟨x, r, rfl, j1, j2⟩ := i1
          exact ⟨x, r, rfl, j1, j2⟩
        · obtain ⟨m', v', e, rfl, v0, v1⟩ := hd
          cases e
          exact hq G2 H2 v _ (k4 v' v0 v1) (T1.trans T2) i2
  | .bi b a => fun q ρ A => .of S rfl fun P h => wp_cb ((sndE S hz a q ρ A).fa h.bind fun x hx => by
      cases x with
      | tup xs => exact ⟨xs, rfl, by rw [S.eK]; exact cbB hx⟩
      | _ => exact hx.elim)
  | .isi a t => fun q ρ A => .of S rfl fun P h => wp_cb (wp_cons ((sndE S hz a q ρ A).fe h.bind fun x hx => wp_cons (wp_ty (wp_nil (by
      split at hx
      · rename_i b e
        obtain ⟨n, h1, h2⟩ := isi_of e
        rw [S.eK]
        exact cb_isi h1 h2 hx
      · exact hx.elim)))))
  | .isi2 a t u => fun q ρ A => .of S rfl fun P h => by
      show wpE c (tCB (rIsiT κ.K) _) q P
      rw [S.eK]
      refine wp_isi2 ((sndE S hz a q ρ A).fe h.bind fun x hx => ?_)
      split at hx
      · rename_i b b' e e'
        obtain ⟨n, h1, h2⟩ := isi_of e
        obtain ⟨n', h1', h2'⟩ := isi_of e'
        rw [h1] at h1'; cases h1'
        exact ⟨n, b, b', h1, h2, h2', hx⟩
      · exact hx.elim
  | .eqO n k f a b => fun q ρ A => .of S rfl fun P h => wp_op ((sndE S hz a q ρ A).fe h.bind fun x hx => (sndE S hz b q ρ A).fe hx.bind fun y hy => by
      rw [S.eK]
      cases x with
      | ins c1 d1 =>
        cases y with
        | ins c2 d2 =>
          obtain ⟨⟨rfl, rfl⟩, hy2⟩ := all_ite (show All (hdC c) P (Z ρ) (if c1 = k ∧ c2 = k then ((Γ.call f [.ins c1 d1, .ins c2 d2]).noX.bind (eqBack n)) else bad) from hy)
          exact odL (od_own S rfl hy2)
        | _ => exact (show False from hy).elim
      | _ => exact odR (od2 hy))
  | .isC a k => fun q ρ A => .of S rfl fun P h => wp_cb (wp_cons ((sndE S hz a q ρ A).fe h.bind fun x hx => wp_cons (wp_ref (d := .cls k) (fun G => by rw [S.eK]; rfl) (wp_nil (by
      split at hx
      · rename_i b e
        rw [S.eK]
        unfold isCD at e
        split at e
        · obtain ⟨h1, h2⟩ := S.isc _ _ _ e
          exact cb_isC h1 h2 hx
        · split at e
          · rename_i n hn
            exact cb_isN hn (S.isn _ _ e n (tyn_mem hn)) hx
          · cases e
      · exact hx.elim)))))
  | .lc k it tg t e vs => fun q ρ A => .of S rfl fun P h => by
      have hb := h.bind
      have go : ∀ {l : List D}, All (hdC c) P (Z ρ) (if l.length ≤ 10000 ∧ tg.inn vs = true then lcGo (lcF Γ ρ tg t e vs) l [] else bad) →
          l.length ≤ 10000 ∧ ∃ I : Nat → List D → Prop, I 0 [] ∧ (∀ i x acc, l[i]? = some x → I i acc → lcTurn c (denGp κ.K tg).1 (den κ t).t (den κ e).e vs q x acc (I (i + 1))) ∧ ∀ acc, I l.length acc → P (.lst acc) := by
        intro l hl
        obtain ⟨⟨h1, h2⟩, h3⟩ := all_ite hl
        refine ⟨h1, fun i acc => All (hdC c) P (Z ρ) (lcGo (lcF Γ ρ tg t e vs) (l.drop i) acc), h3, fun i x acc hi hI => ?_, fun acc hI => ?_⟩
        · have hI : All (hdC c) P (Z ρ) (lcGo (lcF Γ ρ tg t e vs) (l.drop i) acc) := hI
          rw [drop_at hi] at hI
          exact lc_snd S.eK h2 (sndE S hz t) (sndE S hz e) A hI
        · have hI : All (hdC c) P (Z ρ) (lcGo (lcF Γ ρ tg t e vs) (l.drop l.length) acc) := hI
          rw [List.drop_length] at hI
          exact hI
      cases k with
      | seq =>
        show wpE c (tLc (iSeq κ.K (den κ it).e) (denGp κ.K tg).1 (den κ t).t (den κ e).e vs) q P
        rw [show iSeq κ.K.K (den κ it).e = iSeq c.K (den κ it).e by rw [S.eK]]
        refine wp_lcQ ((sndE S hz it q ρ A).fe hb fun d hd => ?_)
        split at hd
        · rename_i l e
          exact ⟨l, items_seq e, go hd⟩
        · exact hd.elim
      | rng1 =>
        refine wp_lcR1 ((sndE S hz it q ρ A).fa hb fun d hd => ?_)
        split at hd
        · rename_i l e
          obtain ⟨n, rfl, n1, n2, rfl⟩ := items_r1 e
          obtain ⟨hL, I, i0, i1, i2⟩ := go hd
          have n2 : n ≤ 10000 := by
            first
              | (rw [rngL_len] at hL; omega)
              | (have := hL.1; rw [rngL_len] at this; omega)
          refine ⟨_, rfl, n, rfl, n1, n2, I, i0, fun i acc hi hI => ?_, fun acc hI => i2 acc (by rw [rngL_len]; exact hI)⟩
          exact i1 i (.int i) acc (by rw [rngL_get _ _ _ (by omega)]; rw [Int.zero_add]) hI
        · exact hd.elim
      | rng2 =>
        refine wp_lcR2 ((sndE S hz it q ρ A).fa hb fun d hd => ?_)
        split at hd
        · rename_i l e
          obtain ⟨a, b, rfl, n1, n2, n3, n4, rfl⟩ := items_r2 e
          obtain ⟨_, I, i0, i1, i2⟩ := go hd
          exact ⟨_, rfl, a, b, rfl, n3, n4, n1, n2, I, i0, fun i acc hi hI => i1 i _ acc (rngL_get _ _ _ (by omega)) hI, fun acc hI => i2 acc (by rw [rngL_len]; exact hI)⟩
        · exact hd.elim
      | enum =>
        show wpE c (tLc (iEnumQ κ.K (den κ it).a) (denGp κ.K tg).1 (den κ t).t (den κ e).e vs) q P
        rw [show iEnumQ κ.K.K (den κ it).a = iEnumQ c.K (den κ it).a by rw [S.eK]]
        refine wp_lcE ((sndE S hz it q ρ A).fa hb fun d hd => ?_)
        split at hd
        · rename_i l e
          obtain ⟨ds, hd2, rfl⟩ := items_en e
          obtain ⟨hl, I, i0, i1, i2⟩ := go hd
          rw [enumL_len] at hl i2
          rcases hd2 with rfl | rfl
          · exact ⟨_, rfl, ds, .inl rfl, hl, I, i0, i1, i2⟩
          · exact ⟨_, rfl, ds, .inr rfl, hl, I, i0, i1, i2⟩
        · exact hd.elim
      | zip =>
        show wpE c (tLc (iZipQ κ.K (den κ it).a) (denGp κ.K tg).1 (den κ t).t (den κ e).e vs) q P
        rw [show iZipQ κ.K.K (den κ it).a = iZipQ c.K (den κ it).a by rw [S.eK]]
        refine wp_lcZ ((sndE S hz it q ρ A).fa hb fun d hd => ?_)
        split at hd
        · rename_i l e
          obtain ⟨a, b, ds, es, rfl, e1, e2, rfl⟩ := items_zip e
          obtain ⟨hl, I, i0, i1, i2⟩ := go hd
          exact ⟨_, rfl, a, b, ds, es, rfl, e1, e2, hl, I, i0, i1, i2⟩
        · exact hd.elim
  | .yes => fun q ρ A => .wt S rfl (fun P h => wp_bl h) fun B h => wt_yes (by obtain ⟨_, e, k⟩ := (show IsB B (.bl true) from h); cases e; exact k)
  | .eqR n a b => fun q ρ A => .of S rfl fun P h => by
      show wpE c (tOp (cond n rNe rEq) (tCB (rReprA κ.K) (tCons (den κ a).e tNil)) (tCB (rReprA κ.K) (tCons (den κ b).e tNil))) q P
      rw [S.eK]
      refine wp_op (wp_cb (wp_cons ((sndE S hz a q ρ A).fe h.bind fun x hx => wp_nil ?_)))
      obtain ⟨h1, h2⟩ := all_ite hx
      refine cb_repr h1 (wp_cb (wp_cons ((sndE S hz b q ρ A).fe h2.bind fun y hy => wp_nil ?_)))
      obtain ⟨h3, h4⟩ := all_ite hy
      rw [← D.same_eq h3]
      cases n with
      | true => exact cb_repr h1 (od_neS h4)
      | false => exact cb_repr h1 (od_eqS h4)
  | .xf i k f => fun q ρ A => .of S rfl fun P h => by
      have h : All (hdC c) P (Z ρ) (match ρ[i]? with
        | some (.exc c' ds) => if k = c' then (match ((Γ.xf k).zip ds).lookup f with | some d => ret d | none => bad) else bad
        | _ => bad) := h
      split at h
      · rename_i c' ds e
        obtain ⟨rfl, h'⟩ := all_ite h
        clear h
        split at h'
        · rename_i d e2
          obtain ⟨s, e3, dx, rfl, e4, e5⟩ := A.at e
          show wpE c (tXf κ.sx.1 κ.sx.2.1 κ.sx.2.2 (κ.K.cls k) f (tVar i)) q P
          rw [e4, e5, S.eK]
          exact wp_xf (wp_var e3 ⟨_, _, d, rfl, by rw [S.xf]; exact e2, h'⟩)
        · exact h'.elim
      · exact h.elim
  | .fld a f => fun q ρ A => .of S rfl fun P h => by
      show wpE c (tFld κ.K (den κ a).e f) q P
      rw [S.eK]
      refine wp_fld (fun k hk => by rw [S.fld] at hk ⊢; exact S.cl k hk) ((sndE S hz a q ρ A).fe h.bind fun x hx => ?_)
      match x, hx with
      | .ins k ds, hx =>
        have hx : All (hdC c) P (Z ρ) (match ((Γ.fld k).zip ds).lookup f with | some d => ret d | none => bad) := hx
        split at hx
        · rename_i d e
          exact ⟨k, ds, d, rfl, by rw [S.fld]; exact e, hx⟩
        · exact hx.elim
  | .lenO i => fun q ρ A => .of S rfl fun P h => by
      show wpE c (tCB (crLen κ.K) _) q P
      rw [S.eK]
      have h0 := h.bind
      unfold getO at h0
      split at h0
      · rename_i d e
        exact wp_cb (wp_cons (wp_var (A.dat e) (wp_nil (cbB (b := .len) h0))))
      · rename_i ds e
        obtain ⟨p, e⟩ := A.own e
        exact wp_lenO e h0
      · exact h0.elim
  | .tupO i => fun q ρ A => .of S rfl fun P h => by
      show wpE c (tCB (crTup κ.K) _) q P
      rw [S.eK]
      have h0 := h.bind
      unfold getO at h0
      split at h0
      · rename_i d e
        exact wp_cb (wp_cons (wp_var (A.dat e) (wp_nil (cbB (b := .tuple) h0))))
      · rename_i ds e
        obtain ⟨p, e⟩ := A.own e
        exact wp_tupO e h0
      · exact h0.elim
  | .idx a b => fun q ρ A => .of S rfl fun P h => by
      show wpE c (tBM κ.K "list" (rIndexD κ.K) (den κ a).e (tCons (den κ b).e tNil)) q P
      rw [show (κ.K.K : PySem.W.Frag) = c.K by rw [S.eK]]
      refine wp_idx ((sndE S hz a q ρ A).fe h.bind fun x hx => ?_)
      cases x with
      | lst l =>
        refine ⟨l, rfl, (sndE S hz b q ρ A).fe (show All (hdC c) P (Z ρ) ((evalE Γ b ρ).bind fun y => o2_idx (.lst l) y) from hx).bind fun y hy => ?_⟩
        obtain ⟨h1, h2⟩ := all_ite (show All (hdC c) P (Z ρ) (if (D.cmp (.lst l) && D.cmp y) = true then _ else bad) from hy)
        refine ⟨h1, ?_⟩
        cases e : idxD y l 0 with
        | some j =>
          rw [e] at h2
          exact ⟨j, rfl, h2⟩
        | none =>
          rw [e] at h2
          exact h2.elim
      | _ => exact (show False from hx).elim
  | .cmpO n i b => fun q ρ A => .of S rfl fun P h => by
      show wpE c (tOp (den2 κ.K (cond n .ne .eq)) (tVar i) (den κ b).e) q P
      rw [S.eK]
      have h0 := h.bind
      unfold getO at h0
      split at h0
      · rename_i d e
        exact wp_op (wp_var (A.dat e) ((sndE S hz b q ρ A).fe (show All (hdC c) P (Z ρ) _ from h0).bind fun y hy => od2 (o := cond n .ne .eq) hy))
      · rename_i ds e
        obtain ⟨p, e⟩ := A.own e
        refine wp_cmpO e ((sndE S hz b q ρ A).fe (show All (hdC c) P (Z ρ) _ from h0).bind fun y hy => ?_)
        cases n with
        | true => exact all_ite (show All (hdC c) P (Z ρ) (if (D.cmp (.lst ds) && D.cmp y) = true then _ else bad) from hy)
        | false => exact all_ite (show All (hdC c) P (Z ρ) (if (D.cmp (.lst ds) && D.cmp y) = true then _ else bad) from hy)
      · exact h0.elim
  | .prp k f a => fun q ρ A => .of S rfl fun P h => by
      show wpE c (tProp (κ.K.cls k) (κ.sp f) [] E0 (den κ a).e) q P
      intro G H s Sp R Q hq
      refine (sndE S hz a q ρ A).fe (P' := fun x => ∃ ds, x = .ins k ds ∧ All (hdC c) P (Z ρ) (Γ.call f [.ins k ds]).noX) h.bind (fun x hx => ?_) G H s Sp R _ fun G1 H1 v x h1 T1 i1 => ?_
      · cases x with
        | ins c1 ds =>
          obtain ⟨rfl, h2⟩ := all_ite (show All (hdC c) P (Z ρ) (if c1 = k then (Γ.call f [.ins c1 ds]).noX else bad) from hx)
          exact ⟨ds, rfl, h2⟩
        | _ => exact (show False from hx).elim
      · obtain ⟨ds, rfl, h2⟩ := h1
        rw [S.eK]
        exact sp_prp S T1.ok i1 h2 fun G' H' v d p T i => hq G' H' v d p (T1.trans T) i
  | .slcO i lo hi => fun q ρ A => .of S rfl fun P h => by
      show wpE c (tSl (rSlQ κ.K) (tVar i) (den κ lo).o (den κ hi).o) q P
      rw [S.eK]
      have h0 := h.bind
      unfold getO at h0
      split at h0
      · rename_i x e0
        refine wp_slQ (wp_var (A.dat e0) ((sndE S hz lo q ρ A).fo (show All (hdC c) P (Z ρ) _ from h0).bind fun l hl => ?_))
        split at hl
        · exact hl.elim
        · rename_i lo' e
          have k : wpO c (den κ hi).o q fun hi' => ∃ ds, (x = .lst ds ∧ P (.lst (cutD ds lo' hi'))) ∨ (x = .tup ds ∧ P (.tup (cutD ds lo' hi'))) := (sndE S hz hi q ρ A).fo hl.bind fun y hy => by
            split at hy
            · exact hy.elim
            · rename_i hi' e2
              have kk : ∃ ds, (x = .lst ds ∧ P (.lst (cutD ds lo' hi'))) ∨ (x = .tup ds ∧ P (.tup (cutD ds lo' hi'))) := by
                cases x with
                | lst ds => exact ⟨ds, .inl ⟨rfl, hy⟩⟩
                | tup ds => exact ⟨ds, .inr ⟨rfl, hy⟩⟩
                | _ => exact (show False from hy).elim
              cases y with
              | int i => cases e2; exact .inr ⟨i, rfl, kk⟩
              | non => cases e2; exact .inl ⟨rfl, kk⟩
              | _ => cases e2
          cases l with
          | int i => cases e; exact .inr ⟨i, rfl, k⟩
          | non => cases e; exact .inl ⟨rfl, k⟩
          | _ => cases e
      · rename_i ds e0
        obtain ⟨p, e0⟩ := A.own e0
        refine wp_slO e0 ((sndE S hz lo q ρ A).fo (show All (hdC c) P (Z ρ) _ from h0).bind fun l hl => ?_)
        split at hl
        · exact hl.elim
        · rename_i lo' e
          have k : wpO c (den κ hi).o q fun hi' => P (.lst (cutD ds lo' hi')) := (sndE S hz hi q ρ A).fo hl.bind fun y hy => by
            split at hy
            · exact hy.elim
            · rename_i hi' e2
              cases y with
              | int i => cases e2; exact .inr ⟨i, rfl, hy⟩
              | non => cases e2; exact .inl ⟨rfl, hy⟩
              | _ => cases e2
          cases l with
          | int i => cases e; exact .inr ⟨i, rfl, k⟩
          | non => cases e; exact .inl ⟨rfl, k⟩
          | _ => cases e
      · exact h0.elim
  | .ixO i a => fun q ρ A => .of S rfl fun P h => by
      show wpE c (tOp (rIx κ.K) (tVar i) (den κ a).e) q P
      rw [S.eK]
      have h0 := h.bind
      unfold getO at h0
      split at h0
      · rename_i d e
        exact wp_op (wp_var (A.dat e) ((sndE S hz a q ρ A).fe (show All (hdC c) P (Z ρ) _ from h0).bind fun y hy => od2 (o := .ix) hy))
      · rename_i ds e
        obtain ⟨p, e⟩ := A.own e
        refine wp_ixO e ((sndE S hz a q ρ A).fe (show All (hdC c) P (Z ρ) _ from h0).bind fun y hy => ?_)
        cases y with
        | int k =>
          have hy : All (hdC c) P (Z ρ) (match atI ds k with | some d => ret d | none => bad) := hy
          split at hy
          · rename_i d e2; exact ix_of e2 hy
          · exact hy.elim
        | _ => exact hy.elim
      · exact h0.elim
end
end Ez
set_option Elab.async false
set_option linter.all false
set_option maxRecDepth 100000
namespace Ez
open L2 PySem PyProof.Rows PySem.Spec
open Tr
structure Ds where
  ts : TS
  hs : List Clause
def mkx (ns : List Str) (ws : List V) : List (Str × V) := ns.zip ws.reverse
def denS (κ : Dn) : SS → Ds
  | .nop => ⟨tNext, []⟩
  | .seq a b => ⟨tSeq (denS κ a).ts (denS κ b).ts, []⟩
  | .asg tg e => ⟨tAsg (den κ e).e (denGp κ.K tg).1, []⟩
  | .asgO i e => ⟨tAsg (den κ e).e (gName i), []⟩
  | .par i j a => ⟨tPar i j (den κ a).a, []⟩
  | .par3 i j l a => ⟨tPar3 i j l (den κ a).a, []⟩
  | .app i e => ⟨tDrop (tBM κ.K "list" rAppend (tVar i) (tCons (den κ e).e tNil)), []⟩
  | .setO i ix e => ⟨tAsg (den κ e).e (gSub (tVar i) (den κ ix).e rSetL), []⟩
  | .ret e => ⟨tRet (den κ e).e, []⟩
  | .retN => ⟨tRetN, []⟩
  | .ite t a b => ⟨tIfS (den κ t).t (denS κ a).ts (denS κ b).ts, []⟩
  | .for k it tg b => ⟨tFor (denI κ.K k (den κ it)) (denGp κ.K tg).1 (denS κ b).ts, []⟩
  | .whl t b => ⟨tWhile (den κ t).t (denS κ b).ts, []⟩
  | .rse c a => ⟨fun _ σ H => tMkO (κ.K.cls c) (spEx (κ.K.cls c) (mkx (κ.K.xf c)) (κ.K.xf c).length) [] (den κ a).a σ H fun cls d H' => κ.snk.at σ cls d H', []⟩
  | .try b h => ⟨runTb (fun Wx => (denS { κ with snk := .tr Wx } b).ts) (fun D' => wTry κ.K (fun _ _ _ _ => False) D' (denS κ h).hs), []⟩
  | .hnil => ⟨tNext, []⟩
  | .hcons c i b r => ⟨tNext, (.ref (κ.K.cls c), i, fun a cls d => (denS { κ with sx := (a, cls, d), snk := .no } b).ts) :: (denS κ r).hs⟩
  | .drop e => ⟨tDrop (den κ e).e, []⟩
  | .keep _ s => denS κ s
  | .setF f e => ⟨sFld κ.K (tVar 0) (den κ e).e f, []⟩
  | .brk => ⟨tBreak, []⟩
  | .cnt => ⟨tCont, []⟩
  | .retO i => ⟨tRet (tVar i), []⟩
  | .asgC i f sk dvs a => ⟨tAsg (den κ (.call f sk dvs a)).e (gName i), []⟩
  | .retX t a b => ⟨tRet (den κ (.ifx t a b)).e, []⟩
def FlOk (c : Cn) (sx : Addr × Value × Option Addr) (F : Fn) : Fl → Prop
  | .nx ρ => ∀ q, Abs c.K.toKB sx q ρ → F.nx q
  | .rt d ρ => (c.fr = false ∨ ∃ l, d = .tup l) ∧ ∀ q, Abs c.K.toKB sx q ρ → F.rt q d
  | .bk ρ => ∀ q, Abs c.K.toKB sx q ρ → F.bk q
  | .ct ρ => ∀ q, Abs c.K.toKB sx q ρ → F.ct q
  | .rf d ρ => c.fr = true ∧ ∀ q, Abs c.K.toKB sx q ρ → F.rt q d
abbrev Zs (Z : Vars → Xn → Prop) : Xn × Vars → Prop := fun y => Z y.2 y.1
section
variable {c : Cn} {κ : Dn} {Γ : Pgm} {Z : Vars → Xn → Prop} {q : List Sl} {ρ : Vars} {te : TE} {F : Fn}
theorem Stp.but {W : Wd} {G H G1 H1 : Hp} {A : Addr} (hA : H A = none) (hG : G1 A = none) (hm : ¬ W.M A) (T : Stp W G H G1 H1) : Stp W G H G1 (butH H1 A) := by
  refine ⟨⟨fun a u e => ?_, T.ok.cln, fun a m => ?_, W.stb T.ok.inv (Ex.refl _) fun a m => ?_⟩, T.ex, T.fresh, fun a u n e => ?_, fun a u e => ?_⟩
  · by_cases z : a = A
    · rw [z, hG] at e; cases e
    · rw [butH_ne z]; exact T.ok.sub a u e
  · have z : a ≠ A := fun e => hm (e ▸ m)
    rw [butH_ne z]; exact T.ok.liv a m
  · have z : a ≠ A := fun e => hm (e ▸ m)
    exact butH_ne z
  · have z : a ≠ A := fun e' => by rw [e', hA] at e; cases e
    rw [butH_ne z]; exact T.kp a u n e
  · have z : a ≠ A := fun e' => by rw [e', hA] at e; cases e
    rw [butH_ne z]; exact T.th a u e
theorem upd_but {H : Hp} {A : Addr} {o : HO} (h : H A = some o) : upd (butH H A) A o = H := by
  funext a
  by_cases z : a = A
  · rw [z, upd_same, h]
  · rw [upd_ne z, butH_ne z]
theorem lc_endF {G1 H1 H : Hp} {A : Addr} {i : Nat} {I : List D → Prop} (hA : H1 A = none) (ok : Ok c.W G1 H1) (w : LcAt c G1 H1 A i I H) {Q : VK}
    (hq : ∀ G' H' p xs ds, I ds → Stp c.W G1 H1 G' H' → H' p = none → IsL c.K G' ds xs → Q (.ref p) (upd H' p (.lst xs))) : Q (.ref A) H := by
  obtain ⟨G, acc, xs, ha, hl, T, a1, a2, a3⟩ := w
  have := hq G (butH H A) A xs acc ha (Stp.but hA a2 (ok.notM hA) T) butH_eq a3
  rw [upd_but a1] at this
  exact this
/-- the same comprehension, its list nobody else's -/
theorem wf_lcQ {g : TG} {ta : TE} {tt : TT} {te : TE} {vs : List Nat} {P : List D → Prop} (h : wpE c ta q fun d => ∃ ds, (d = .lst ds ∨ d = .tup ds ∨ d = .scr ds) ∧ ds.length ≤ 10000 ∧ ∃ I : Nat → List D → Prop, I 0 [] ∧
      (∀ i x acc, ds[i]? = some x → I i acc → lcTurn c g tt te vs q x acc (I (i + 1))) ∧ ∀ acc, I ds.length acc → P acc) : wpF c (tLc (iSeq c.K ta) g tt te vs) q P := fun G H s S R Q hq =>
  h G H s S R _ fun G1 H1 v d h1 T1 i1 => by
    obtain ⟨ds, hd, hz, I, h0, hs, he⟩ := h1
    have start : ∀ A, H1 A = none → LcAt c G1 H1 A 0 (I 0) (upd H1 A (.lst [])) := fun A hA =>
      ⟨G1, [], [], h0, Nat.le_refl 0, (Stp.refl T1.ok).put hA (none_of_sub T1.ok.sub hA) (T1.ok.notM hA), upd_same, none_of_sub T1.ok.sub hA, rfl⟩
    rcases hd with rfl | rfl | rfl
    · obtain ⟨a, xs, rfl, l1, l2⟩ := i1
      refine ⟨a, rfl, .inl ⟨⟨xs, l1.sq T1.ok.sub⟩, fun A hA => lc_list (xs := xs) (fun i => LcAt c G1 H1 A i (I i)) (start A hA) (fun i H' _ w => ?_) (fun i x H' e w => ?_) fun H' w => ?_⟩⟩
      · obtain ⟨G2, acc, ys, _, _, T2, _⟩ := w
        exact (l1.mono T2.ex).sq T2.ok.sub
      · obtain ⟨d, ed, id⟩ := IsL.back l2 e
        have : i < ds.length := (List.getElem?_eq_some_iff.mp ed).1
        exact lc_turn hA (S.trans T1) (R.step T1) (by omega) w id fun acc ha => hs i d acc ed ha
      · rw [IsL.len l2] at w
        exact lc_endF hA T1.ok w fun G' H' p xs acc ha T' hp iv => hq G' H' p xs acc (he acc ha) (T1.trans T') hp iv
    · obtain ⟨a, xs, rfl, l1, l2⟩ := i1
      refine ⟨a, rfl, .inr ⟨⟨xs, l1.sq T1.ok.sub⟩, fun A hA => lc_tup (xs := xs) (fun i => LcAt c G1 H1 A i (I i)) (start A hA) (fun i H' _ w => ?_) (fun i x H' e w => ?_) fun H' w => ?_⟩⟩
      · obtain ⟨G2, acc, ys, _, _, T2, _⟩ := w
        exact (l1.mono T2.ex).sq T2.ok.sub
      · obtain ⟨d, ed, id⟩ := IsL.back l2 e
        have : i < ds.length := (List.getElem?_eq_some_iff.mp ed).1
        exact lc_turn hA (S.trans T1) (R.step T1) (by omega) w id fun acc ha => hs i d acc ed ha
      · rw [IsL.len l2] at w
        exact lc_endF hA T1.ok w fun G' H' p xs acc ha T' hp iv => hq G' H' p xs acc (he acc ha) (T1.trans T') hp iv
    · obtain ⟨a, xs, rfl, l1, l2⟩ := i1
      refine ⟨a, rfl, .inl ⟨⟨xs, rd_sq T1.ok.sub l1⟩, fun A hA => lc_list (xs := xs) (fun i => LcAt c G1 H1 A i (I i)) (start A hA) (fun i H' _ w => ?_) (fun i x H' e w => ?_) fun H' w => ?_⟩⟩
      · obtain ⟨G2, acc, ys, _, _, T2, _⟩ := w
        exact rd_sq T2.ok.sub (rd_sq T2.ex l1)
      · obtain ⟨d, ed, id⟩ := IsL.back l2 e
        have : i < ds.length := (List.getElem?_eq_some_iff.mp ed).1
        exact lc_turn hA (S.trans T1) (R.step T1) (by omega) w id fun acc ha => hs i d acc ed ha
      · rw [IsL.len l2] at w
        exact lc_endF hA T1.ok w fun G' H' p xs acc ha T' hp iv => hq G' H' p xs acc (he acc ha) (T1.trans T') hp iv
theorem wf_lcR1 {g : TG} {tt : TT} {te : TE} {vs : List Nat} {ta : TA} {P : List D → Prop} (h : wpA c ta q fun ds => ∃ n : Int, ds = [.int n] ∧ -10000 ≤ n ∧ n ≤ 10000 ∧ ∃ I : Nat → List D → Prop, I 0 [] ∧
      (∀ (i : Nat) acc, (i : Int) < n → I i acc → lcTurn c g tt te vs q (.int i) acc (I (i + 1))) ∧ ∀ acc, I n.toNat acc → P acc) : wpF c (tLc (iRng1 ta) g tt te vs) q P := fun G H s S R Q hq =>
  h G H s S R _ fun G1 H1 vs' ds h1 T1 i1 => by
    obtain ⟨n, rfl, n1, n2, I, h0, hs, hd⟩ := h1
    obtain ⟨v, rfl, iv⟩ := IsL.one_of i1
    cases (show v = V.int n from iv)
    refine ⟨n, rfl, by omega, by omega, fun A hA => lc_range (lo := 0) (n := n.toNat) (fun i => LcAt c G1 H1 A i (I i)) ?_ (fun i H' hi w => ?_) fun H' w => ?_⟩
    · exact ⟨G1, [], [], h0, Nat.le_refl 0, (Stp.refl T1.ok).put hA (none_of_sub T1.ok.sub hA) (T1.ok.notM hA), upd_same, none_of_sub T1.ok.sub hA, rfl⟩
    · have e0 : (0 : Int) + (i : Int) = (i : Int) := Int.zero_add _
      rw [e0]
      exact lc_turn (x := .int i) hA (S.trans T1) (R.step T1) (by omega) w rfl fun acc ha => hs i acc (by omega) ha
    · exact lc_endF hA T1.ok w fun G' H' p xs acc ha T' hp iv => hq G' H' p xs acc (hd acc ha) (T1.trans T') hp iv
theorem wf_lcR2 {g : TG} {tt : TT} {te : TE} {vs : List Nat} {ta : TA} {P : List D → Prop} (h : wpA c ta q fun ds => ∃ lo n : Int, ds = [.int lo, .int n] ∧ -10000 ≤ n ∧ n ≤ 10000 ∧ 0 ≤ lo ∧ lo ≤ 10000 ∧ ∃ I : Nat → List D → Prop, I 0 [] ∧
      (∀ (i : Nat) acc, lo + (i : Int) < n → I i acc → lcTurn c g tt te vs q (.int (lo + i)) acc (I (i + 1))) ∧ ∀ acc, I (n - lo).toNat acc → P acc) : wpF c (tLc (iRng2 ta) g tt te vs) q P := fun G H s S R Q hq =>
  h G H s S R _ fun G1 H1 vs' ds h1 T1 i1 => by
    obtain ⟨lo, n, rfl, n1, n2, n3, n4, I, h0, hs, hd⟩ := h1
    obtain ⟨v, w, rfl, iv, iw⟩ := IsL.two_of i1
    cases (show v = V.int lo from iv)
    cases (show w = V.int n from iw)
    refine ⟨lo, n, rfl, ⟨by omega, by omega, by omega, by omega⟩, fun A hA => lc_range (lo := lo) (n := (n - lo).toNat) (fun i => LcAt c G1 H1 A i (I i)) ?_ (fun i H' hi w => ?_) fun H' w => ?_⟩
    · exact ⟨G1, [], [], h0, Nat.le_refl 0, (Stp.refl T1.ok).put hA (none_of_sub T1.ok.sub hA) (T1.ok.notM hA), upd_same, none_of_sub T1.ok.sub hA, rfl⟩
    · exact lc_turn (x := .int (lo + i)) hA (S.trans T1) (R.step T1) (by omega) w rfl fun acc ha => hs i acc (by omega) ha
    · exact lc_endF hA T1.ok w fun G' H' p xs acc ha T' hp iv => hq G' H' p xs acc (hd acc ha) (T1.trans T') hp iv
theorem wf_lcE {g : TG} {ta : TA} {tt : TT} {te : TE} {vs : List Nat} {P : List D → Prop} (h : wpA c ta q fun zs => ∃ ds, (zs = [.lst ds] ∨ zs = [.tup ds]) ∧ ds.length ≤ 10000 ∧ ∃ I : Nat → List D → Prop, I 0 [] ∧
      (∀ i x acc, (enumL 0 ds)[i]? = some x → I i acc → lcTurn c g tt te vs q x acc (I (i + 1))) ∧ ∀ acc, I ds.length acc → P acc) : wpF c (tLc (iEnumQ c.K ta) g tt te vs) q P := fun G H s S R Q hq =>
  h G H s S R _ fun G1 H1 vz zs h1 T1 i1 => by
    obtain ⟨ds, hd, hz, I, h0, hs, he⟩ := h1
    have start : ∀ A, H1 A = none → LcAt c G1 H1 A 0 (I 0) (upd H1 A (.lst [])) := fun A hA =>
      ⟨G1, [], [], h0, Nat.le_refl 0, (Stp.refl T1.ok).put hA (none_of_sub T1.ok.sub hA) (T1.ok.notM hA), upd_same, none_of_sub T1.ok.sub hA, rfl⟩
    rcases hd with rfl | rfl
    · obtain ⟨v, rfl, a, xs, rfl, l1, l2⟩ := IsL.one_of i1
      refine ⟨a, rfl, .inl ⟨⟨xs, l1.sq T1.ok.sub⟩, fun A hA => lc_it (walk_enum (xs := xs)) (fun i => LcAt c G1 H1 A i (I i)) (start A hA) (fun i H' _ w => ?_) (fun i x H' H'' hi w y => ?_) fun H' w => ?_⟩⟩
      · obtain ⟨G2, acc, ys, _, _, T2, _⟩ := w
        exact (l1.mono T2.ex).sq T2.ok.sub
      · exact lc_turnE hA (S.trans T1) (R.step T1) hz l2 w y fun x acc e ha => hs i x acc e ha
      · rw [IsL.len l2] at w
        exact lc_endF hA T1.ok w fun G' H' p xs acc ha T' hp iv => hq G' H' p xs acc (he acc ha) (T1.trans T') hp iv
    · obtain ⟨v, rfl, a, xs, rfl, l1, l2⟩ := IsL.one_of i1
      refine ⟨a, rfl, .inr ⟨⟨xs, l1.sq T1.ok.sub⟩, fun A hA => lc_it (walk_enumT (xs := xs)) (fun i => LcAt c G1 H1 A i (I i)) (start A hA) (fun i H' _ w => ?_) (fun i x H' H'' hi w y => ?_) fun H' w => ?_⟩⟩
      · obtain ⟨G2, acc, ys, _, _, T2, _⟩ := w
        exact (l1.mono T2.ex).sq T2.ok.sub
      · exact lc_turnE hA (S.trans T1) (R.step T1) hz l2 w y fun x acc e ha => hs i x acc e ha
      · rw [IsL.len l2] at w
        exact lc_endF hA T1.ok w fun G' H' p xs acc ha T' hp iv => hq G' H' p xs acc (he acc ha) (T1.trans T') hp iv
theorem wf_lcZ {tt : TT} {vs : List Nat} {P : List D → Prop} (h : wpA c ta q fun zs => ∃ d e ds es, zs = [d, e] ∧ seqL d = some ds ∧ seqL e = some es ∧ (zipL ds es).length ≤ 10000 ∧ ∃ I : Nat → List D → Prop, I 0 [] ∧
      (∀ i x acc, (zipL ds es)[i]? = some x → I i acc → lcTurn c g tt te vs q x acc (I (i + 1))) ∧ ∀ acc, I (zipL ds es).length acc → P acc) : wpF c (tLc (iZipQ c.K ta) g tt te vs) q P := fun G H s S R Q hq =>
  h G H s S R _ fun G1 H1 vz zs h1 T1 i1 => by
    obtain ⟨d, e, ds, es, rfl, hd, he', hz, I, h0, hs, he⟩ := h1
    obtain ⟨v, w, rfl, iv, iw⟩ := two_is i1
    obtain ⟨a, xs, p, rfl, l1, k1⟩ := seq_is iv hd
    obtain ⟨b, ys, p', rfl, l2, k2⟩ := seq_is iw he'
    refine ⟨a, b, xs, ys, p, p', rfl, k1 (Ex.refl _) T1.ok.sub, k2 (Ex.refl _) T1.ok.sub, fun A hA => ?_⟩
    have start : LcAt c G1 H1 A 0 (I 0) (upd H1 A (.lst [])) := ⟨G1, [], [], h0, Nat.le_refl 0, (Stp.refl T1.ok).put hA (none_of_sub T1.ok.sub hA) (T1.ok.notM hA), upd_same, none_of_sub T1.ok.sub hA, rfl⟩
    refine lc_it (walk_zipX (xs := xs) (ys := ys)) (fun i => LcAt c G1 H1 A i (I i)) start (fun i H' _ w => ?_) (fun i x H' H'' hi w y => ?_) fun H' w => ?_
    · obtain ⟨G2, acc, zs, _, _, T2, _⟩ := w
      exact ⟨k1 T2.ex T2.ok.sub, k2 T2.ex T2.ok.sub⟩
    · exact lc_turnZ hA (S.trans T1) (R.step T1) hz l1 l2 w y fun x acc e ha => hs i x acc e ha
    · rw [zip_len l1 l2] at w
      exact lc_endF hA T1.ok w fun G' H' p xs acc ha T' hp iv => hq G' H' p xs acc (he acc ha) (T1.trans T') hp iv
theorem wf_rep {Kf : PySem.W.Frag} {ta tb : TE} {P : List D → Prop} (h : wpE c ta q fun x => wpE c tb q fun y => ∃ ds k, x = .lst ds ∧ y = .int k ∧ (ds.length * k.toNat ≤ 100000 ∧ k ≤ 10000 ∧ -10000 ≤ k) ∧ P (List.replicate k.toNat ds).flatten)  : wpF c (tOp (rMul Kf) ta tb) q P := fun G H s S R Q hq =>
  h G H s S R _ fun G1 H1 vx x h1 T1 i1 => h1 G1 H1 s (S.trans T1) (R.step T1) _ fun G2 H2 vy y h2 T2 i2 => by
    obtain ⟨ds, k, rfl, rfl, b, p⟩ := h2
    obtain ⟨l, xs, rfl, e1, e2⟩ := Is.mono T2.ex _ i1
    cases (show vy = V.int k from i2)
    exact .inr (.inl ⟨l, k, xs, rfl, rfl, T2.ok.sub _ _ e1, by omega, by omega, by rw [IsL.len e2]; exact Nat.le_trans b.1 (by decide), fun n hn => hq G2 H2 n _ _ p (T1.trans T2) hn (IsL.rep e2 _)⟩)
def IsL' (P : List D → Prop) (d : D) : Prop := ∃ l, d = .lst l ∧ P l
/-- a list, or a tuple -/
def IsM' (P P2 : List D → Prop) (d : D) : Prop := (∃ l, d = .lst l ∧ P l) ∨ ∃ l, d = .tup l ∧ P2 l
theorem wf_lstO {i : Nat} {a : Addr} {ds : List D} {P : List D → Prop} (hi : q[i]? = some (.own a ds)) (k : P ds) : wpF c (tCB (crList c.K) (tCons (tVar i) tNil)) q P := fun G H s S R Q hq => by
  obtain ⟨xs, e1, e2, e3, e4, e5, e6⟩ := R.own i a ds hi
  exact ⟨_, e1, a, xs, rfl, .inl (.inl (.inl e2)), fun l hl => hq G H l xs ds k (Stp.refl S.ok) hl e6⟩
/-- a call of a def that gives back a list of its own -/
theorem sp_runF (S : Sd c κ Γ) (hz : SnkOk c κ Z) {f : Nat} (hf : Γ.fr f = true) {sk : Bool} {ds : List D} {P P2 : List D → Prop} {G H : Hp} {s : L2.St} {vs : List V} (Sp : c.S G H) (R : c.R G H s q) (A : Abs c.K.toKB κ.sx q ρ) (i : IsL c.K G ds vs)
    (h : All (hdC c) (IsM' P P2) (Z ρ) (if sk then Γ.call f ds else (Γ.call f ds).noX)) {Q : VK} (hq : ∀ G' H1 p xs es, P es → Stp c.W G H G' H1 → H1 p = none → IsL c.K G' es xs → Q (.ref p) (upd H1 p (.lst xs)))
    (hq2 : ∀ G' H' v l, P2 l → Stp c.W G H G' H' → Is c.K G' (.tup l) v → Q v H') : κ.sp f vs H Q ((cond sk κ.snk.at Snk.no.at) s) := by
  refine S.sp _ _ _ _ _ ?_
  rw [hf]
  cases sk with
  | true =>
    simp only [if_true, cond_true] at h ⊢
    refine ⟨c.W, G, ds, Sp.ok, i, h.mono (fun _ _ => trivial) (fun _ _ => trivial), fun G' H1 p xs es a T hn il => ?_, fun G' H' v l a T il => ?_, fun G' H' C dx ns es xs a T e1 e2 e3 => ?_⟩
    · rcases h.of_ret a with ⟨_, e, k⟩ | ⟨_, e, k⟩
      · cases e; exact hq G' H1 p xs es k T hn il
      · cases e
    · rcases h.of_ret a with ⟨_, e, k⟩ | ⟨_, e, k⟩
      · cases e
      · cases e; exact hq2 G' H' v l k T il
    · obtain ⟨x, hx, rfl, rfl, rfl⟩ := a
      exact hz q ρ G' H' s dx xs x (h.of_exn hx) A (Sp.trans T) (R.step T) e1 e2 e3
  | false =>
    simp only [Bool.false_eq_true, if_false, cond_false] at h ⊢
    have h := h.of_noX
    refine ⟨c.W, G, ds, Sp.ok, i, h.mono (fun _ _ => trivial) (fun _ _ => trivial), fun G' H1 p xs es a T hn il => ?_, fun G' H' v l a T il => ?_, fun G' H' C dx ns es xs a T e1 e2 e3 => ?_⟩
    · rcases h.of_ret a with ⟨_, e, k⟩ | ⟨_, e, k⟩
      · cases e; exact hq G' H1 p xs es k T hn il
      · cases e
    · rcases h.of_ret a with ⟨_, e, k⟩ | ⟨_, e, k⟩
      · cases e
      · cases e; exact hq2 G' H' v l k T il
    · obtain ⟨x, hx, _⟩ := a
      exact (h.of_exn hx).elim
theorem wf_call (S : Sd c κ Γ) (hz : SnkOk c κ Z) {f : Nat} (hf : Γ.fr f = true) {sk : Bool} {dvs : List V} {a : EE} (A : Abs c.K.toKB κ.sx q ρ) {P P2 : List D → Prop} (h : All (hdC c) (IsM' P P2) (Z ρ) (evalE Γ (.call f sk dvs a) ρ)) : wpM c (den κ (.call f sk dvs a)).e q P P2 := fun G H s Sp R Q hq hq2 =>
  (sndE S hz a q ρ A).fa (L := fun ds => dvs.all scaV = true ∧ All (hdC c) (IsM' P P2) (Z ρ) (if sk then Γ.call f (ds ++ dvs.map dOf) else (Γ.call f (ds ++ dvs.map dOf)).noX)) h.bind (fun x hx => by
    cases x with
    | tup xs => exact ⟨xs, rfl, all_ite hx⟩
    | _ => exact hx.elim) G H s Sp R _ fun G1 H1 vs ds h1 T1 i1 =>
      sp_runF S hz hf (Sp.trans T1) (R.step T1) A (IsL.app i1 (isDef h1.1)) h1.2 (fun G2 H2 p xs es k T2 hn il => hq G2 H2 p xs es k (T1.trans T2) hn il) fun G2 H2 v l k T2 il => hq2 G2 H2 v l k (T1.trans T2) il
theorem sndF (S : Sd c κ Γ) (hz : SnkOk c κ Z) (e : EE) (he : e.fresh = true) (A : Abs c.K.toKB κ.sx q ρ) {P : List D → Prop} (h : All (hdC c) (IsL' P) (Z ρ) (evalE Γ e ρ)) : wpF c (den κ e).e q P := by
  cases e with
  | lstO i =>
    show wpF c (tCB (crList κ.K) (tCons (tVar i) tNil)) q P
    rw [show crList κ.K.K = crList c.K by rw [S.eK]]
    have h0 := h.bind
    unfold getO at h0
    split at h0
    · rename_i d e
      match d, e, h0 with
      | .tup l, e, h0 =>
        obtain ⟨_, e', k⟩ := (show IsL' P (.lst l) from h0)
        cases e'; exact wf_listT (wp_cons (wp_var (A.dat e) (wp_nil ⟨l, .inl rfl, k⟩)))
      | .lst l, e, h0 =>
        obtain ⟨_, e', k⟩ := (show IsL' P (.lst l) from h0)
        cases e'; exact wf_listT (wp_cons (wp_var (A.dat e) (wp_nil ⟨l, .inr rfl, k⟩)))
    · rename_i ds e
      obtain ⟨p, e⟩ := A.own e
      obtain ⟨_, e', k⟩ := (show IsL' P (.lst ds) from h0)
      cases e'; exact wf_lstO e k
    · exact h0.elim
  | lst a =>
    refine wf_lst ((sndE S hz a q ρ A).fa h.bind fun x hx => ?_)
    cases x with
    | tup xs =>
      obtain ⟨h1, h2⟩ := all_ite hx
      obtain ⟨_, e, k⟩ := (show IsL' P (.lst xs) from h2)
      cases e; exact ⟨xs, rfl, h1, k⟩
    | _ => exact hx.elim
  | bi b a =>
    cases b with
    | list =>
      refine (S.eK ▸ wf_listT : wpA c _ q _ → wpF c (tCB (crList κ.K) (den κ a).a) q P) ((sndE S hz a q ρ A).fa h.bind fun x hx => ?_)
      match x, hx with
      | .tup [.tup l], hx =>
        obtain ⟨_, e, k⟩ := (show IsL' P (.lst l) from hx)
        cases e; exact ⟨_, rfl, l, .inl rfl, k⟩
      | .tup [.lst l], hx =>
        obtain ⟨_, e, k⟩ := (show IsL' P (.lst l) from hx)
        cases e; exact ⟨_, rfl, l, .inr rfl, k⟩
    | _ => cases he
  | op o a b =>
    cases o <;> first | cases he | skip
    cases a <;> first | cases he | skip
    rename_i a
    refine wf_rep ((sndE S hz (.lst a) q ρ A).fe h.bind fun x hx => (sndE S hz b q ρ A).fe hx.bind fun y hy => ?_)
    match x, y, hy with
    | .lst ds, .int k, hy =>
      obtain ⟨h1, h2⟩ := all_ite hy
      obtain ⟨_, e, z⟩ := (show IsL' P (.lst _) from h2)
      cases e; exact ⟨ds, k, rfl, rfl, h1, z⟩
    | .int i, .int k, hy =>
      obtain ⟨h1, h2⟩ := all_ite hy
      obtain ⟨_, e, z⟩ := (show IsL' P (.int _) from h2)
      cases e
    | .tup i, .int k, hy =>
      obtain ⟨h1, h2⟩ := all_ite hy
      obtain ⟨_, e, z⟩ := (show IsL' P (.tup _) from h2)
      cases e
  | lc k it tg t e vs =>
    have hb := h.bind
    have go : ∀ {l : List D}, All (hdC c) (IsL' P) (Z ρ) (if l.length ≤ 10000 ∧ tg.inn vs = true then lcGo (lcF Γ ρ tg t e vs) l [] else bad) →
        l.length ≤ 10000 ∧ ∃ I : Nat → List D → Prop, I 0 [] ∧ (∀ i x acc, l[i]? = some x → I i acc → lcTurn c (denGp κ.K tg).1 (den κ t).t (den κ e).e vs q x acc (I (i + 1))) ∧ ∀ acc, I l.length acc → P acc := by
      intro l hl
      obtain ⟨⟨h1, h2⟩, h3⟩ := all_ite hl
      refine ⟨h1, fun i acc => All (hdC c) (IsL' P) (Z ρ) (lcGo (lcF Γ ρ tg t e vs) (l.drop i) acc), h3, fun i x acc hi hI => ?_, fun acc hI => ?_⟩
      · have hI : All (hdC c) (IsL' P) (Z ρ) (lcGo (lcF Γ ρ tg t e vs) (l.drop i) acc) := hI
        rw [drop_at hi] at hI
        exact lc_snd S.eK h2 (sndE S hz t) (sndE S hz e) A hI
      · have hI : All (hdC c) (IsL' P) (Z ρ) (lcGo (lcF Γ ρ tg t e vs) (l.drop l.length) acc) := hI
        rw [List.drop_length] at hI
        obtain ⟨_, e, k⟩ := (show IsL' P (.lst acc) from hI)
        cases e; exact k
    cases k with
    | seq =>
      show wpF c (tLc (iSeq κ.K (den κ it).e) (denGp κ.K tg).1 (den κ t).t (den κ e).e vs) q P
      rw [show iSeq κ.K.K (den κ it).e = iSeq c.K (den κ it).e by rw [S.eK]]
      refine wf_lcQ ((sndE S hz it q ρ A).fe hb fun d hd => ?_)
      split at hd
      · rename_i l e
        exact ⟨l, items_seq e, go hd⟩
      · exact hd.elim
    | rng1 =>
      refine wf_lcR1 ((sndE S hz it q ρ A).fa hb fun d hd => ?_)
      split at hd
      · rename_i l e
        obtain ⟨n, rfl, n1, n2, rfl⟩ := items_r1 e
        obtain ⟨hL, I, i0, i1, i2⟩ := go hd
        have n2 : n ≤ 10000 := by
          first
            | (rw [rngL_len] at hL; omega)
            | (have := hL.1; rw [rngL_len] at this; omega)
        refine ⟨_, rfl, n, rfl, n1, n2, I, i0, fun i acc hi hI => ?_, fun acc hI => i2 acc (by rw [rngL_len]; exact hI)⟩
        exact i1 i (.int i) acc (by rw [rngL_get _ _ _ (by omega)]; rw [Int.zero_add]) hI
      · exact hd.elim
    | rng2 =>
      refine wf_lcR2 ((sndE S hz it q ρ A).fa hb fun d hd => ?_)
      split at hd
      · rename_i l e
        obtain ⟨a, b, rfl, n1, n2, n3, n4, rfl⟩ := items_r2 e
        obtain ⟨_, I, i0, i1, i2⟩ := go hd
        exact ⟨_, rfl, a, b, rfl, n3, n4, n1, n2, I, i0, fun i acc hi hI => i1 i _ acc (rngL_get _ _ _ (by omega)) hI, fun acc hI => i2 acc (by rw [rngL_len]; exact hI)⟩
      · exact hd.elim
    | enum =>
      show wpF c (tLc (iEnumQ κ.K (den κ it).a) (denGp κ.K tg).1 (den κ t).t (den κ e).e vs) q P
      rw [show iEnumQ κ.K.K (den κ it).a = iEnumQ c.K (den κ it).a by rw [S.eK]]
      refine wf_lcE ((sndE S hz it q ρ A).fa hb fun d hd => ?_)
      split at hd
      · rename_i l e
        obtain ⟨ds, hd2, rfl⟩ := items_en e
        obtain ⟨hl, I, i0, i1, i2⟩ := go hd
        rw [enumL_len] at hl i2
        rcases hd2 with rfl | rfl
        · exact ⟨_, rfl, ds, .inl rfl, hl, I, i0, i1, i2⟩
        · exact ⟨_, rfl, ds, .inr rfl, hl, I, i0, i1, i2⟩
      · exact hd.elim
    | zip =>
      show wpF c (tLc (iZipQ κ.K (den κ it).a) (denGp κ.K tg).1 (den κ t).t (den κ e).e vs) q P
      rw [show iZipQ κ.K.K (den κ it).a = iZipQ c.K (den κ it).a by rw [S.eK]]
      refine wf_lcZ ((sndE S hz it q ρ A).fa hb fun d hd => ?_)
      split at hd
      · rename_i l e
        obtain ⟨a, b, ds, es, rfl, e1, e2, rfl⟩ := items_zip e
        obtain ⟨hl, I, i0, i1, i2⟩ := go hd
        exact ⟨_, rfl, a, b, ds, es, rfl, e1, e2, hl, I, i0, i1, i2⟩
      · exact hd.elim
  | _ => cases he
end
end Ez
set_option Elab.async false
set_option linter.all false
set_option maxRecDepth 100000
namespace Ez
open L2 PySem PyProof.Rows PySem.Spec
open Tr
section
variable {c : Cn} {κ : Dn} {Γ : Pgm} {Z : Vars → Xn → Prop} {q : List Sl} {ρ : Vars} {te : TE} {F : Fn}
theorem ws_forQ {g : TG} {ta : TE} {tb : TS} (h : wpE c ta q fun d => ∃ ds, (d = .lst ds ∨ d = .tup ds ∨ d = .scr ds) ∧ ∃ I : Nat → List Sl → Prop, I 0 q ∧
      (∀ i x q', ds[i]? = some x → I i q' → wpG c g x q' fun q2 => wpS c tb q2 { F with nx := I (i + 1), ct := I (i + 1), bk := F.nx }) ∧ ∀ q', I ds.length q' → F.nx q') :
    wpS c (tFor (iSeq c.K ta) g tb) q F := fun D' s G H S R p =>
  h G H s S R _ fun G1 H1 v d h1 T1 i1 => by
    obtain ⟨ds, hd, I, h0, hs, he⟩ := h1
    have p1 := p.more T1.ex
    rcases hd with rfl | rfl | rfl
    · obtain ⟨a, xs, rfl, l1, l2⟩ := i1
      refine ⟨a, rfl, .inl ⟨⟨xs, l1.sq T1.ok.sub⟩, for_list (xs := xs) (fun i => LpAt c G1 (I i)) ⟨G1, q, h0, Ex.refl G1, S.trans T1, R.step T1⟩ (fun i s' H' _ z => ?_) (fun i x s' H' e z => ?_) fun s' H' z => ?_⟩⟩
      · obtain ⟨G2, q2, _, e2, S2, _⟩ := z
        exact (l1.mono e2).sq S2.ok.sub
      · obtain ⟨G2, q2, w, e2, S2, R2⟩ := z
        obtain ⟨d, ed, id⟩ := IsL.back l2 e
        exact turn_at p1 e2 S2 R2 (Is.mono e2 d id) (hs i d q2 ed w)
      · obtain ⟨G2, q2, w, e2, S2, R2⟩ := z
        rw [IsL.len l2] at w
        exact p1.nx s' H' G2 q2 (he q2 w) e2 S2 R2
    · obtain ⟨a, xs, rfl, l1, l2⟩ := i1
      refine ⟨a, rfl, .inr ⟨⟨xs, l1.sq T1.ok.sub⟩, for_tup (xs := xs) (fun i => LpAt c G1 (I i)) ⟨G1, q, h0, Ex.refl G1, S.trans T1, R.step T1⟩ (fun i s' H' _ z => ?_) (fun i x s' H' e z => ?_) fun s' H' z => ?_⟩⟩
      · obtain ⟨G2, q2, _, e2, S2, _⟩ := z
        exact (l1.mono e2).sq S2.ok.sub
      · obtain ⟨G2, q2, w, e2, S2, R2⟩ := z
        obtain ⟨d, ed, id⟩ := IsL.back l2 e
        exact turn_at p1 e2 S2 R2 (Is.mono e2 d id) (hs i d q2 ed w)
      · obtain ⟨G2, q2, w, e2, S2, R2⟩ := z
        rw [IsL.len l2] at w
        exact p1.nx s' H' G2 q2 (he q2 w) e2 S2 R2
    · obtain ⟨a, xs, rfl, l1, l2⟩ := i1
      refine ⟨a, rfl, .inl ⟨⟨xs, rd_sq T1.ok.sub l1⟩, for_list (xs := xs) (fun i => LpAt c G1 (I i)) ⟨G1, q, h0, Ex.refl G1, S.trans T1, R.step T1⟩ (fun i s' H' _ z => ?_) (fun i x s' H' e z => ?_) fun s' H' z => ?_⟩⟩
      · obtain ⟨G2, q2, _, e2, S2, _⟩ := z
        exact rd_sq S2.ok.sub (rd_sq e2 l1)
      · obtain ⟨G2, q2, w, e2, S2, R2⟩ := z
        obtain ⟨d, ed, id⟩ := IsL.back l2 e
        exact turn_at p1 e2 S2 R2 (Is.mono e2 d id) (hs i d q2 ed w)
      · obtain ⟨G2, q2, w, e2, S2, R2⟩ := z
        rw [IsL.len l2] at w
        exact p1.nx s' H' G2 q2 (he q2 w) e2 S2 R2
theorem IsL.rev {K : KT} {G : Hp} : ∀ {ds : List D} {xs : List V}, IsL K G ds xs → IsL K G ds.reverse xs.reverse
  | [], _, h => by cases (show _ = [] from h); exact rfl
  | d :: ds, _, ⟨x, r, p, a, b⟩ => by rw [p, List.reverse_cons, List.reverse_cons]; exact IsL.app (IsL.rev b) (IsL.one a)
theorem ws_rse (hz : SnkOk c κ Z) (eK : κ.K = c.K.toKB) {k : Nat} {ta : TA} (A : Abs c.K.toKB κ.sx q ρ) (h : wpA c ta q fun ds => ds.length = (c.K.xf k).length ∧ ds.length ≤ 100 ∧ Z ρ ⟨k, ds.reverse⟩) :
    wpS c (fun _ σ H => tMkO (κ.K.cls k) (spEx (κ.K.cls k) (mkx (κ.K.xf k)) (κ.K.xf k).length) [] ta σ H fun cls d H' => κ.snk.at σ cls d H') q F := fun D' s G H S R p => by
  rw [eK]
  refine h G H s S R _ fun G1 H1 vs ds h1 T1 i1 => ?_
  obtain ⟨h1, h2, h3⟩ := h1
  have lv := IsL.len i1
  refine ⟨by rw [lv]; omega, fun a ha => ⟨a, vs ++ [], rfl, by rw [List.append_nil, lv, h1], upd_same, fun d H' nd da e1 e2 e3 => ⟨rfl, d, mkx (c.K.xf k) (vs ++ []), e1, e2, ?_, ?_⟩⟩⟩
  · rw [upd_ne da] at nd; exact nd
  · have nd' : H1 d = none := by rw [upd_ne da] at nd; exact nd
    have eH : upd (del H' a) d (.xd (mkx (c.K.xf k) (vs ++ []))) = upd H1 d (.xd ((c.K.xf k).zip vs.reverse)) := by
      rw [List.append_nil]
      funext b
      by_cases h1 : b = d
      · rw [h1, upd_same, upd_same]; rfl
      · rw [upd_ne h1, upd_ne h1]
        by_cases h2 : b = a
        · rw [h2, del_same, ha]
        · rw [del_ne h2, e3 b h2 h1, upd_ne h2]
    rw [eH]
    have e4 : Ex G1 (upd G1 d (.xd ((c.K.xf k).zip vs.reverse))) := Ex.new (none_of_sub T1.ok.sub nd')
    refine hz q ρ (upd G1 d _) _ s d vs.reverse ⟨k, ds.reverse⟩ h3 A ((S.trans T1).lay nd') ?_ upd_same (by rw [List.length_reverse, h1]) (IsL.rev (IsL.mono e4 ds i1))
    exact (R.step T1).step ((Stp.refl T1.ok).lay nd')
theorem Sd.chg (S : Sd c κ Γ) {c' : Cn} {κ' : Dn} (e : c'.K = c.K) (h1 : κ'.K = κ.K) (h2 : κ'.sp = κ.sp) (h3 : κ'.ok = κ.ok) (h4 : κ'.con = κ.con) (h5 : κ'.take = κ.take) (h6 : κ'.si = κ.si := by rfl) : Sd c' κ' Γ :=
  ⟨by rw [h1, S.eK, e], fun f vs H Q E z => by rw [h2]; rw [e] at z; exact S.sp f vs H Q E z, by rw [h3, S.ok], fun k G => by rw [e, h4]; exact S.con k G, by rw [e, S.xf], fun vs H Q E z => by rw [h5]; rw [e] at z; exact S.take vs H Q E z, by rw [e, S.fld], fun k hk => by rw [e]; exact S.cl k hk, fun k f vs H Q E z => by rw [h6]; rw [e] at z; exact S.si k f vs H Q E z, fun a b r h => by rw [e]; exact S.sub a b r h, fun j k b h => by rw [e]; exact S.isc j k b h, fun k b h => by rw [e]; exact S.isn k b h⟩
theorem noExc_at (h : noExc ρ = true) {i : Nat} {v : Sv} (e : ρ[i]? = some v) : v.isExc = false := by
  have := List.all_eq_true.mp h v (List.mem_of_getElem? e)
  simpa using this
theorem Abs.chg {K : KB} {sx sx' : Addr × Value × Option Addr} (h : noExc ρ = true) (A : Abs K sx q ρ) : Abs K sx' q ρ := ⟨A.1, fun i s v e e' => by
  have z := A.2 i s v e e'
  have n := noExc_at h e'
  cases v with
  | exc c ds => cases n
  | obj c ds => cases n
  | _ => exact z⟩
theorem Abs.clr {K : KB} {sx sx' : Addr × Value × Option Addr} (A : Abs K sx q ρ) : Abs K sx' q (ρ.map Sv.clr) := ⟨by rw [List.length_map]; exact A.1, fun i s v e e' => by
  rw [List.getElem?_map] at e'
  cases z : ρ[i]? with
  | none => rw [z] at e'; cases e'
  | some v' =>
    rw [z] at e'
    cases e'
    have w := A.2 i s v' e z
    cases v' with
    | exc c ds => trivial
    | obj c ds => trivial
    | _ => exact w⟩
abbrev SndT (c : Cn) (κ : Dn) (Γ : Pgm) (Z : Vars → Xn → Prop) (s : SS) : Prop := ∀ (F : Fn) (q : List Sl) (ρ : Vars), Abs c.K.toKB κ.sx q ρ → All (hdC c) (FlOk c κ.sx F) (Zs Z) (evalS Γ s none ρ) → wpS c (denS κ s).ts q F
theorem snk_no {κ : Dn} : SnkOk c κ (fun _ _ => False) := fun _ _ _ _ _ _ _ _ z => z.elim
theorem for_snd (eK : κ.K = c.K.toKB) {tg : Tg} {b : SS} (hb : SndT c κ Γ Z b) (A : Abs c.K.toKB κ.sx q ρ) {x : D} {r : List D} {f : D → Vars → RS} (hf : f = fun x ρ => match evalG false tg x ρ with | some ρ' => evalS Γ b none ρ' | none => bad)
    (h : All (hdC c) (FlOk c κ.sx F) (Zs Z) (forGo f (x :: r) ρ)) {J : List Sl → Prop} (hJ : ∀ q' ρ', Abs c.K.toKB κ.sx q' ρ' → All (hdC c) (FlOk c κ.sx F) (Zs Z) (forGo f r ρ') → J q') :
    wpG c (denGp κ.K tg).1 x q fun q2 => wpS c (denS κ b).ts q2 { F with nx := J, ct := J, bk := F.nx } := by
  have h1 : All (hdC c) (FlOk c κ.sx F) (Zs Z) ((f x ρ).bind fun
    | .nx ρ' => forGo f r ρ'
    | .ct ρ' => forGo f r ρ'
    | .bk ρ' => ret (.nx ρ')
    | .rt d ρ' => ret (.rt d ρ')
    | .rf d ρ' => ret (.rf d ρ')) := h
  have h1 := h1.bind
  rw [hf] at h1
  dsimp only at h1
  split at h1
  · rename_i ρ1 hg
    refine (sndG eK tg ρ ρ1 q _ κ.sx A fun q2 A2 => ?_).1 x hg
    refine hb _ q2 ρ1 A2 (h1.mono (fun fl hfl => ?_) fun _ z => z)
    cases fl with
    | nx ρ' => exact fun q' A' => hJ q' ρ' A' (by rw [hf]; exact hfl)
    | ct ρ' => exact fun q' A' => hJ q' ρ' A' (by rw [hf]; exact hfl)
    | bk ρ' => exact fun q' A' => hfl q' A'
    | rt d ρ' => exact hfl
    | rf d ρ' => exact hfl
  · exact h1.elim
theorem Abs.setD {K : KB} {sx : Addr × Value × Option Addr} {i : Nat} {d : D} (A : Abs K sx q ρ) : Abs K sx (q.set i (.dat d)) (ρ.set i (.dat d)) := A.set (show AbsV K sx (.dat d) (.dat d) from rfl)
theorem Abs.setExc {K : KB} {sx : Addr × Value × Option Addr} {i a dx k : Nat} {ds : List D} (h : noExc ρ = true) (A : Abs K sx q ρ) : Abs K (a, .ref (K.cls k), some dx) (q.set i (.dat (.exc a dx (K.cls k) (K.xf k) ds))) (ρ.set i (.exc k ds)) :=
  (A.chg h).set (show AbsV K _ (.dat (.exc a dx (K.cls k) (K.xf k) ds)) (.exc k ds) from ⟨dx, rfl, rfl, rfl⟩)
mutual
theorem sndS : ∀ (s : SS) (c : Cn) (κ : Dn) (Z : Vars → Xn → Prop) (S : Sd c κ Γ) (hz : SnkOk c κ Z), SndT c κ Γ Z s
  | .nop, c, κ, Z, S, hz => fun F q ρ A h => ws_next (h q A)
  | .seq a b, c, κ, Z, S, hz => fun F q ρ A h => by
      show wpS c (tSeq (denS κ a).ts (denS κ b).ts) q F
      refine ws_seq (sndS a c κ Z S hz { F with nx := fun q' => wpS c (denS κ b).ts q' F } q ρ A (h.bind.mono (fun fl hfl => ?_) fun _ z => z))
      cases fl with
      | nx ρ' => exact fun q' A' => sndS b c κ Z S hz F q' ρ' A' hfl
      | _ => exact hfl
  | .asg tg e, c, κ, Z, S, hz => fun F q ρ A h => by
      show wpS c (tAsg (den κ e).e (denGp κ.K tg).1) q F
      refine ws_asg ((sndE S hz e q ρ A).fe h.bind.of_mapX fun d hd => ?_)
      split at hd
      · rename_i ρ' hg
        exact (sndG S.eK tg ρ ρ' q _ κ.sx A fun q' A' => hd q' A').1 d hg
      · exact hd.elim
  | .asgO i e, c, κ, Z, S, hz => fun F q ρ A h => by
      show wpS c (tAsg (den κ e).e (gName i)) q F
      obtain ⟨⟨hf, hi⟩, h⟩ := all_ite h
      refine ws_asgF (by rw [A.1]; exact hi) (sndF S hz e hf A (h.bind.of_mapX.mono (fun d hd => ?_) fun _ z => z))
      cases d with
      | lst ds => exact ⟨ds, rfl, fun a => hd _ (A.set ⟨a, rfl⟩)⟩
      | _ => exact hd.elim
  | .par i j a, c, κ, Z, S, hz => fun F q ρ A h => by
      show wpS c (tPar i j (den κ a).a) q F
      refine ws_par ((sndE S hz a q ρ A).fa h.bind.of_mapX fun d hd => ?_)
      match d, hd with
      | .tup [x, y], hd =>
        obtain ⟨⟨h1, h2⟩, h3⟩ := all_ite hd
        exact ⟨_, rfl, x, y, rfl, by rw [A.1]; exact h1, by rw [A.1]; exact h2, h3 _ A.setD.setD⟩
  | .par3 i j l a, c, κ, Z, S, hz => fun F q ρ A h => by
      show wpS c (tPar3 i j l (den κ a).a) q F
      refine ws_par3 ((sndE S hz a q ρ A).fa h.bind.of_mapX fun d hd => ?_)
      match d, hd with
      | .tup [x, y, z], hd =>
        obtain ⟨⟨h1, h2, h3⟩, h4⟩ := all_ite hd
        exact ⟨_, rfl, x, y, z, rfl, by rw [A.1]; exact h1, by rw [A.1]; exact h2, by rw [A.1]; exact h3, h4 _ A.setD.setD.setD⟩
  | .app i e, c, κ, Z, S, hz => fun F q ρ A h => by
      show wpS c (tDrop (tBM κ.K "list" rAppend (tVar i) (tCons (den κ e).e tNil))) q F
      rw [S.eK]
      have h : All (hdC c) (FlOk c κ.sx F) (Zs Z) (match ρ[i]? with
        | some (.own ds) => (at_ (evalE Γ e ρ) ρ).bind fun d => if ds.length ≤ 10000 then ret (.nx (ρ.set i (.own (ds ++ [d])))) else bad
        | _ => bad) := h
      split at h
      · rename_i ds e1
        obtain ⟨p, e2⟩ := A.own e1
        refine ws_app e2 ((sndE S hz e q ρ A).fe h.bind.of_mapX fun d hd => ?_)
        obtain ⟨h1, h2⟩ := all_ite hd
        exact ⟨h1, h2 _ (A.set ⟨p, rfl⟩)⟩
      · exact h.elim
  | .setO i ix e, c, κ, Z, S, hz => fun F q ρ A h => by
      show wpS c (tAsg (den κ e).e (gSub (tVar i) (den κ ix).e rSetL)) q F
      have h : All (hdC c) (FlOk c κ.sx F) (Zs Z) (match ρ[i]? with
        | some (.own ds) => (at_ (evalE Γ e ρ) ρ).bind fun d => (at_ (evalE Γ ix ρ) ρ).bind fun
          | .int k => (match ixN ds.length k with | some j => ret (.nx (ρ.set i (.own (ds.set j d)))) | none => bad)
          | _ => bad
        | _ => bad) := h
      split at h
      · rename_i ds e1
        obtain ⟨p, e2⟩ := A.own e1
        refine ws_setO e2 ((sndE S hz e q ρ A).fe h.bind.of_mapX fun d hd => (sndE S hz ix q ρ A).fe hd.bind.of_mapX fun y hy => ?_)
        cases y with
        | int k =>
          have hy : All (hdC c) (FlOk c κ.sx F) (Zs Z) (match ixN ds.length k with | some j => ret (.nx (ρ.set i (.own (ds.set j d)))) | none => bad) := hy
          split at hy
          · rename_i j e3
            exact st_of e3 (hy _ (A.set ⟨p, rfl⟩))
          · exact hy.elim
        | _ => exact hy.elim
      · exact h.elim
  | .ret e, c, κ, Z, S, hz => fun F q ρ A h => by
      show wpS c (tRet (den κ e).e) q F
      exact ws_retT ((sndE S hz e q ρ A).fe h.bind.of_mapX fun d hd => ⟨hd.1, hd.2 q A⟩)
  | .retN, c, κ, Z, S, hz => fun F q ρ A h => ws_retN (h.2 q A) (h.1.elim id fun ⟨_, z⟩ => by cases z)
  | .ite t a b, c, κ, Z, S, hz => fun F q ρ A h => by
      show wpS c (tIfS (den κ t).t (denS κ a).ts (denS κ b).ts) q F
      refine ws_if ((sndE S hz t q ρ A).ft h.bind.of_mapX fun d hd => ?_)
      cases d with
      | bl v => cases v with
        | true => exact ⟨true, rfl, fun _ => sndS a c κ Z S hz F q ρ A hd, fun z => nomatch z⟩
        | false => exact ⟨false, rfl, fun z => (nomatch z), fun _ => sndS b c κ Z S hz F q ρ A hd⟩
      | _ => exact hd.elim
  | .for k it tg b, c, κ, Z, S, hz => fun F q ρ A h => by
      have hb := h.bind.of_mapX
      have go : ∀ {l : List D}, All (hdC c) (FlOk c κ.sx F) (Zs Z) (forGo (fun x ρ => match evalG false tg x ρ with | some ρ' => evalS Γ b none ρ' | none => bad) l ρ) →
          ∃ I : Nat → List Sl → Prop, I 0 q ∧ (∀ i x q', l[i]? = some x → I i q' → wpG c (denGp κ.K tg).1 x q' fun q2 => wpS c (denS κ b).ts q2 { F with nx := I (i + 1), ct := I (i + 1), bk := F.nx }) ∧ ∀ q', I l.length q' → F.nx q' := by
        intro l hl
        refine ⟨fun i q' => ∃ ρ', Abs c.K.toKB κ.sx q' ρ' ∧ All (hdC c) (FlOk c κ.sx F) (Zs Z) (forGo (fun x ρ => match evalG false tg x ρ with | some ρ' => evalS Γ b none ρ' | none => bad) (l.drop i) ρ'), ⟨ρ, A, hl⟩, fun i x q' hi hI => ?_, fun q' hI => ?_⟩
        · obtain ⟨ρ', A', hI⟩ := hI
          rw [drop_at hi] at hI
          exact for_snd S.eK (fun F q ρ A h => sndS b c κ Z S hz F q ρ A h) A' rfl hI fun q2 ρ2 A2 h2 => ⟨ρ2, A2, h2⟩
        · obtain ⟨ρ', A', hI⟩ := hI
          rw [List.drop_length] at hI
          exact hI q' A'
      cases k with
      | seq =>
        show wpS c (tFor (iSeq κ.K (den κ it).e) (denGp κ.K tg).1 (denS κ b).ts) q F
        rw [show iSeq κ.K.K (den κ it).e = iSeq c.K (den κ it).e by rw [S.eK]]
        refine ws_forQ ((sndE S hz it q ρ A).fe hb fun d hd => ?_)
        split at hd
        · rename_i l e
          exact ⟨l, items_seq e, go hd⟩
        · exact hd.elim
      | rng1 =>
        show wpS c (tFor (iRng1 (den κ it).a) (denGp κ.K tg).1 (denS κ b).ts) q F
        refine ws_forR1 ((sndE S hz it q ρ A).fa hb fun d hd => ?_)
        split at hd
        · rename_i l e
          obtain ⟨n, rfl, n1, n2, rfl⟩ := items_r1 e
          obtain ⟨I, i0, i1, i2⟩ := go hd
          refine ⟨_, rfl, n, rfl, by omega, by omega, I, i0, fun i q' hi hI => ?_, fun q' hI => i2 q' (by rw [rngL_len]; exact hI)⟩
          exact i1 i (.int i) q' (by rw [rngL_get _ _ _ (by omega)]; rw [Int.zero_add]) hI
        · exact hd.elim
      | rng2 =>
        show wpS c (tFor (iRng2 (den κ it).a) (denGp κ.K tg).1 (denS κ b).ts) q F
        refine ws_forR2 ((sndE S hz it q ρ A).fa hb fun d hd => ?_)
        split at hd
        · rename_i l e
          obtain ⟨a, b', rfl, n1, n2, n3, n4, rfl⟩ := items_r2 e
          obtain ⟨I, i0, i1, i2⟩ := go hd
          exact ⟨_, rfl, a, b', rfl, ⟨by omega, by omega, by omega, by omega⟩, I, i0, fun i q' hi hI => i1 i _ q' (rngL_get _ _ _ (by omega)) hI, fun q' hI => i2 q' (by rw [rngL_len]; exact hI)⟩
        · exact hd.elim
      | enum =>
        show wpS c (tFor (iEnumQ κ.K (den κ it).a) (denGp κ.K tg).1 (denS κ b).ts) q F
        rw [show iEnumQ κ.K.K (den κ it).a = iEnumQ c.K (den κ it).a by rw [S.eK]]
        refine ws_forE ((sndE S hz it q ρ A).fa hb fun d hd => ?_)
        split at hd
        · rename_i l e
          obtain ⟨ds, hd2, rfl⟩ := items_en e
          obtain ⟨I, i0, i1, i2⟩ := go hd
          rw [enumL_len] at i2
          rcases hd2 with rfl | rfl
          · exact ⟨_, rfl, ds, .inl rfl, I, i0, i1, i2⟩
          · exact ⟨_, rfl, ds, .inr rfl, I, i0, i1, i2⟩
        · exact hd.elim
      | zip =>
        show wpS c (tFor (iZipQ κ.K (den κ it).a) (denGp κ.K tg).1 (denS κ b).ts) q F
        rw [show iZipQ κ.K.K (den κ it).a = iZipQ c.K (den κ it).a by rw [S.eK]]
        refine ws_forZ ((sndE S hz it q ρ A).fa hb fun d hd => ?_)
        split at hd
        · rename_i l e
          obtain ⟨a, b, ds, es, rfl, e1, e2, rfl⟩ := items_zip e
          obtain ⟨I, i0, i1, i2⟩ := go hd
          exact ⟨_, rfl, a, b, ds, es, rfl, e1, e2, I, i0, i1, i2⟩
        · exact hd.elim
  | .whl t b, c, κ, Z, S, hz => fun F q ρ A h => by
      show wpS c (tWhile (den κ t).t (denS κ b).ts) q F
      refine ws_while (fun m q' => ∃ ρ', Abs c.K.toKB κ.sx q' ρ' ∧ All (hdC c) (FlOk c κ.sx F) (Zs Z) (whGo (fun ρ => evalE Γ t ρ) (fun ρ => evalS Γ b none ρ) m ρ')) ⟨Γ.most, ρ, A, h⟩ fun m q' hI => ?_
      obtain ⟨ρ', A', hI⟩ := hI
      cases m with
      | zero => exact hI.elim
      | succ m =>
        have hI := (show All (hdC c) (FlOk c κ.sx F) (Zs Z) ((at_ (evalE Γ t ρ') ρ').bind fun
          | .bl true => (evalS Γ b none ρ').bind fun
            | .nx ρ' => whGo (fun ρ => evalE Γ t ρ) (fun ρ => evalS Γ b none ρ) m ρ'
            | .ct ρ' => whGo (fun ρ => evalE Γ t ρ) (fun ρ => evalS Γ b none ρ) m ρ'
            | .bk ρ' => ret (.nx ρ')
            | .rt d ρ' => ret (.rt d ρ')
            | .rf d ρ' => ret (.rf d ρ')
          | .bl false => ret (.nx ρ')
          | _ => bad) from hI).bind.of_mapX
        refine (sndE S hz t q' ρ' A').ft hI fun d hd => ?_
        cases d with
        | bl v => cases v with
          | false => exact ⟨false, rfl, fun z => (nomatch z), fun _ => hd q' A'⟩
          | true =>
            refine ⟨true, rfl, fun _ => ?_, fun z => nomatch z⟩
            have hd := (show All (hdC c) (FlOk c κ.sx F) (Zs Z) ((evalS Γ b none ρ').bind fun
              | .nx ρ' => whGo (fun ρ => evalE Γ t ρ) (fun ρ => evalS Γ b none ρ) m ρ'
              | .ct ρ' => whGo (fun ρ => evalE Γ t ρ) (fun ρ => evalS Γ b none ρ) m ρ'
              | .bk ρ' => ret (.nx ρ')
              | .rt d ρ' => ret (.rt d ρ')
              | .rf d ρ' => ret (.rf d ρ')) from hd).bind
            refine sndS b c κ Z S hz _ q' ρ' A' (hd.mono (fun fl hfl => ?_) fun _ z => z)
            cases fl with
            | nx ρ2 => exact fun q2 A2 => ⟨m, Nat.lt_succ_self m, ρ2, A2, hfl⟩
            | ct ρ2 => exact fun q2 A2 => ⟨m, Nat.lt_succ_self m, ρ2, A2, hfl⟩
            | bk ρ2 => exact fun q2 A2 => hfl q2 A2
            | rt d ρ2 => exact hfl
            | rf d ρ2 => exact hfl
        | _ => exact hd.elim
  | .rse k a, c, κ, Z, S, hz => fun F q ρ A h => by
      refine ws_rse hz S.eK A ((sndE S hz a q ρ A).fa h.bind.of_mapX fun d hd => ?_)
      cases d with
      | tup ds =>
        by_cases e : ds.length = (Γ.xf k).length ∧ ds.length ≤ 100
        · have hd : All (hdC c) (FlOk c κ.sx F) (Zs Z) (if ds.length = (Γ.xf k).length ∧ ds.length ≤ 100 then exn (⟨k, ds.reverse⟩, ρ) else bad) := hd
          rw [if_pos e] at hd
          exact ⟨ds, rfl, by rw [S.xf]; exact e.1, e.2, hd⟩
        · have hd : All (hdC c) (FlOk c κ.sx F) (Zs Z) (if ds.length = (Γ.xf k).length ∧ ds.length ≤ 100 then exn (⟨k, ds.reverse⟩, ρ) else bad) := hd
          rw [if_neg e] at hd
          exact hd.elim
      | _ => exact hd.elim
  | .try b hh, c, κ, Z, S, hz => fun F q ρ A h => by
      show wpS c (runTb (fun Wx => (denS { κ with snk := .tr Wx } b).ts) (fun D' => wTry κ.K (fun _ _ _ _ => False) D' (denS κ hh).hs)) q F
      rw [show (fun D' => wTry κ.K.K (fun _ _ _ _ => False) D' (denS κ hh).hs) = fun D' => wTry c.K (fun _ _ _ _ => False) D' (denS κ hh).hs by rw [S.eK]]
      refine ws_tryR fun G1 Wx hW _ => ?_
      have S' : Sd { c with G0 := G1 } { κ with snk := .tr Wx } Γ := S.chg rfl rfl rfl rfl rfl rfl
      have hz' : SnkOk { c with G0 := G1 } { κ with snk := .tr Wx } (fun ρ' x => All (hdC c) (FlOk c κ.sx F) (Zs Z) (evalS Γ hh (some x) ρ')) := by
        intro q' ρ' G' H' s' dx xs x hx A' Sx Rx e1 e2 e3
        exact hW q' G' H' s' (c.K.cls x.c) dx (c.K.xf x.c) x.ds xs (sndH hh { c with G0 := G1 } κ (S.chg rfl rfl rfl rfl rfl rfl) F q' ρ' x _ A' hx) Sx Rx e1 e2 e3
      exact sndS b _ _ _ S' hz' F q ρ A h.catch
  | .hnil, c, κ, Z, S, hz => fun F q ρ A h => h.elim
  | .hcons k none b r, c, κ, Z, S, hz => fun F q ρ A h => h.elim
  | .hcons k (some i) b r, c, κ, Z, S, hz => fun F q ρ A h => h.elim
  | .drop e, c, κ, Z, S, hz => fun F q ρ A h => by
      show wpS c (tDrop (den κ e).e) q F
      exact ws_drop ((sndE S hz e q ρ A).fe h.bind.of_mapX fun d hd => hd q A)
  | .keep i s, c, κ, Z, S, hz => fun F q ρ A h => by
      show wpS c (denS κ s).ts q F
      have h : All (hdC c) (FlOk c κ.sx F) (Zs Z) (match ρ[i]? with
        | some (.own ds) => evalS Γ s none (ρ.set i (.dat (.lst ds)))
        | _ => evalS Γ s none ρ) := h
      split at h
      · rename_i ds e1
        obtain ⟨p, e2⟩ := A.own e1
        exact ws_keep e2 (sndS s c κ Z S hz F _ _ A.setD h)
      · exact sndS s c κ Z S hz F q ρ A h
  | .setF f e, c, κ, Z, S, hz => fun F q ρ A h => by
      show wpS c (sFld κ.K (tVar 0) (den κ e).e f) q F
      rw [S.eK]
      have h : All (hdC c) (FlOk c κ.sx F) (Zs Z) (match ρ[0]? with
        | some (Sv.obj k ds) => (at_ (evalE Γ e ρ) ρ).bind fun d => if (Γ.fld k)[ds.length]? = some f then ret (.nx (ρ.set 0 (.obj k (ds ++ [d])))) else bad
        | _ => bad) := h
      split at h
      · rename_i k ds e1
        obtain ⟨s0, e2, dx, rfl, e3⟩ := A.at e1
        refine ws_setF (fun k hk => by rw [S.fld] at hk ⊢; exact S.cl k hk) e2 ((sndE S hz e q ρ A).fe h.bind.of_mapX fun d hd => ?_)
        obtain ⟨h1, h2⟩ := all_ite hd
        exact ⟨by rw [S.fld]; exact h1, h2 _ (A.set ⟨dx, rfl, e3⟩)⟩
      · exact h.elim
  | .brk, c, κ, Z, S, hz => fun F q ρ A h => ws_brk (h q A)
  | .cnt, c, κ, Z, S, hz => fun F q ρ A h => ws_cont (h q A)
  | .retO i, c, κ, Z, S, hz => fun F q ρ A h => by
      show wpS c (tRet (tVar i)) q F
      have h : All (hdC c) (FlOk c κ.sx F) (Zs Z) (match ρ[i]? with
        | some (.own ds) => ret (.rf (.lst ds) ρ)
        | _ => bad) := h
      split at h
      · rename_i ds e1
        obtain ⟨p, e2⟩ := A.own e1
        exact ws_retL h.1 e2 (h.2 q A)
      · exact h.elim
  | .asgC i f sk dvs a, c, κ, Z, S, hz => fun F q ρ A h => by
      show wpS c (tAsg (den κ (.call f sk dvs a)).e (gName i)) q F
      obtain ⟨⟨hf, hi⟩, h⟩ := all_ite h
      refine ws_asgM (by rw [A.1]; exact hi) (wf_call S hz hf A (h.bind.of_mapX.mono (fun d hd => ?_) fun _ z => z))
      cases d with
      | lst ds => exact .inl ⟨ds, rfl, fun a => hd _ (A.set ⟨a, rfl⟩)⟩
      | tup l => exact .inr ⟨l, rfl, hd _ A.setD⟩
      | _ => exact hd.elim
  | .retX t a b, c, κ, Z, S, hz => fun F q ρ A h => by
      show wpS c (tRet (tIf (den κ t).t (den κ a).e (den κ b).e)) q F
      refine ws_retX ((sndE S hz t q ρ A).ft h.bind.of_mapX fun d hd => ?_)
      cases d with
      | bl v => cases v with
        | true =>
          refine ⟨true, rfl, fun _ => ?_, fun z => nomatch z⟩
          obtain ⟨hf, h2⟩ := all_ite (show All (hdC c) (FlOk c κ.sx F) (Zs Z) (if a.fresh = true then (at_ (evalE Γ a ρ) ρ).bind _ else bad) from hd)
          by_cases hr : c.fr = true
          · refine ws_retNew hr (sndF S hz a hf A (h2.bind.of_mapX.mono (fun d hd => ?_) fun _ z => z))
            cases d with
            | lst ds => exact ⟨ds, rfl, hd.2 q A⟩
            | _ => exact hd.elim
          · refine ws_retQ ((sndE S hz a q ρ A).fe h2.bind.of_mapX fun d hd => ?_)
            cases d with
            | lst ds => exact absurd hd.1 hr
            | _ => exact hd.elim
        | false =>
          refine ⟨false, rfl, fun z => (nomatch z), fun _ => ?_⟩
          have h2 : All (hdC c) (FlOk c κ.sx F) (Zs Z) ((at_ (evalE Γ b ρ) ρ).bind fun | .tup l => ret (.rt (.tup l) ρ) | _ => bad) := hd
          refine ws_retT ((sndE S hz b q ρ A).fe h2.bind.of_mapX fun d hd => ?_)
          cases d with
          | tup l => exact ⟨hd.1, hd.2 q A⟩
          | _ => exact hd.elim
      | _ => exact hd.elim
theorem sndH : ∀ (s : SS) (c : Cn) (κ : Dn) (S : Sd c κ Γ) (F : Fn) (q : List Sl) (ρ : Vars) (x : Xn) (X : Xn × Vars → Prop), Abs c.K.toKB κ.sx q ρ → All (hdC c) (FlOk c κ.sx F) X (evalS Γ s (some x) ρ) → hdD c F (denS κ s).hs q (c.K.cls x.c) (c.K.xf x.c) x.ds
  | .hcons k none b r, c, κ, S => fun F q ρ x X A h => by
      have h : All (hdC c) (FlOk c κ.sx F) X (match Γ.sub x.c k with
        | some true => if noExc ρ = true then ((evalS Γ b none ρ).noX.bind fun fl => ret fl.clr) else bad
        | some false => evalS Γ r (some x) ρ
        | none => bad) := h
      split at h
      · rename_i e
        obtain ⟨h1, h2⟩ := all_ite h
        refine ⟨true, by rw [S.eK]; exact S.sub _ _ _ e, fun _ a dx => ?_, fun z => nomatch z⟩
        refine sndS b c { κ with sx := (a, .ref (c.K.cls x.c), some dx), snk := .no } (fun _ _ => False) (S.chg rfl rfl rfl rfl rfl rfl) snk_no F q ρ (A.chg h1) (h2.bind.of_noX.mono (fun fl hfl => ?_) fun _ z => z.elim)
        cases fl with
        | nx ρ' => exact fun q' A' => hfl q' A'.clr
        | rt d ρ' => exact ⟨hfl.1, fun q' A' => hfl.2 q' A'.clr⟩
        | rf d ρ' => exact ⟨hfl.1, fun q' A' => hfl.2 q' A'.clr⟩
        | bk ρ' => exact fun q' A' => hfl q' A'.clr
        | ct ρ' => exact fun q' A' => hfl q' A'.clr
      · rename_i e
        exact ⟨false, by rw [S.eK]; exact S.sub _ _ _ e, fun z => (nomatch z), fun _ => sndH r c κ S F q ρ x X A h⟩
      · exact h.elim
  | .hcons k (some i) b r, c, κ, S => fun F q ρ x X A h => by
      have h : All (hdC c) (FlOk c κ.sx F) X (match Γ.sub x.c k with
        | some true => if noExc ρ = true ∧ i < ρ.length then (evalS Γ b none (ρ.set i (.exc x.c x.ds))).noX.bind fun fl => ret ((fl.clr).off i) else bad
        | some false => evalS Γ r (some x) ρ
        | none => bad) := h
      split at h
      · rename_i e
        obtain ⟨⟨h1, hi⟩, h2⟩ := all_ite h
        refine ⟨true, by rw [S.eK]; exact S.sub _ _ _ e, fun _ => ⟨by rw [A.1]; exact hi, fun a dx => ?_⟩, fun z => nomatch z⟩
        refine sndS b c { κ with sx := (a, .ref (c.K.cls x.c), some dx), snk := .no } (fun _ _ => False) (S.chg rfl rfl rfl rfl rfl rfl) snk_no (offF F i) _ _ (A.setExc h1) (h2.bind.of_noX.mono (fun fl hfl => ?_) fun _ z => z.elim)
        cases fl with
        | nx ρ' => exact fun q' A' => hfl _ (A'.clr.set trivial)
        | rt d ρ' => exact ⟨hfl.1, fun q' A' => hfl.2 q' A'.clr⟩
        | rf d ρ' => exact ⟨hfl.1, fun q' A' => hfl.2 q' A'.clr⟩
        | bk ρ' => exact fun q' A' => hfl _ (A'.clr.set trivial)
        | ct ρ' => exact fun q' A' => hfl _ (A'.clr.set trivial)
      · rename_i e
        exact ⟨false, by rw [S.eK]; exact S.sub _ _ _ e, fun z => (nomatch z), fun _ => sndH r c κ S F q ρ x X A h⟩
      · exact h.elim
  | .hnil, c, κ, S => fun F q ρ x X A h => h.elim
  | .nop, c, κ, S => fun F q ρ x X A h => h.elim
  | .seq _ _, c, κ, S => fun F q ρ x X A h => h.elim
  | .asg _ _, c, κ, S => fun F q ρ x X A h => h.elim
  | .asgO _ _, c, κ, S => fun F q ρ x X A h => h.elim
  | .par _ _ _, c, κ, S => fun F q ρ x X A h => h.elim
  | .par3 _ _ _ _, c, κ, S => fun F q ρ x X A h => h.elim
  | .app _ _, c, κ, S => fun F q ρ x X A h => h.elim
  | .setO _ _ _, c, κ, S => fun F q ρ x X A h => h.elim
  | .ret _, c, κ, S => fun F q ρ x X A h => h.elim
  | .retN, c, κ, S => fun F q ρ x X A h => h.elim
  | .ite _ _ _, c, κ, S => fun F q ρ x X A h => h.elim
  | .for _ _ _ _, c, κ, S => fun F q ρ x X A h => h.elim
  | .whl _ _, c, κ, S => fun F q ρ x X A h => h.elim
  | .rse _ _, c, κ, S => fun F q ρ x X A h => h.elim
  | .try _ _, c, κ, S => fun F q ρ x X A h => h.elim
  | .drop _, c, κ, S => fun F q ρ x X A h => h.elim
  | .keep _ _, c, κ, S => fun F q ρ x X A h => h.elim
  | .setF _ _, c, κ, S => fun F q ρ x X A h => h.elim
  | .brk, c, κ, S => fun F q ρ x X A h => h.elim
  | .cnt, c, κ, S => fun F q ρ x X A h => h.elim
  | .retO _, c, κ, S => fun F q ρ x X A h => h.elim
  | .asgC _ _ _ _ _, c, κ, S => fun F q ρ x X A h => h.elim
  | .retX _ _ _, c, κ, S => fun F q ρ x X A h => h.elim
end
end
end Ez
set_option Elab.async false
set_option linter.all false
set_option maxRecDepth 100000
namespace Ez
open L2 PySem PyProof.Rows PySem.Spec
open Tr
section
variable {Pg : Program} {w : World} {K : KT} {mg : Str → Option Value} {base : Heap} {ps : List Str} {sp : Sp} {k k' : Nat} {f : Addr} {fd : FuncData}
theorem FnG.mono (F : FnG Pg w K mg base k f fd ps sp) (h : k ≤ k') : FnG Pg w K mg base k' f fd ps sp := ⟨F.size, fun A outer s H args us vs Q E r gs e b v q => F.go A outer s H args us vs Q E (r.mono h) gs e b v q⟩
theorem FnG.of (F : FnOk Pg w K mg base (L2N.CX Pg w) k f fd ps sp) : FnG Pg w K mg base k f fd ps sp := ⟨F.len, fun A outer s H args us vs Q E r gs e b v q => F.run A outer s H args us vs Q E r e b v q⟩
theorem FnG.ex {spp : Addr → Sp} (F : ∀ p, FnG Pg w K mg base k f fd ps (spp p)) : FnG Pg w K mg base k f fd ps (fun vs H Q E => ∃ p, spp p vs H Q E) :=
  ⟨fun vs H Q E ⟨p, h⟩ => (F p).size vs H Q E h, fun A outer s H args us vs Q E r gs e b v ⟨p, h⟩ => (F p).go A outer s H args us vs Q E r gs e b v h⟩
end
section
variable {Pg : Program} {w : World} {B : KB} {mg : Str → Option Value} {base : Heap} {ps : List Str} {sp : Sp} {k k' : Nat} {f : Addr} {fd : FuncData}
def kp (B : KB) (p : Addr) : KT := ⟨B, p⟩
def spR (B : KB) (T : Text) (n g : Nat) : Sp := fun vs H Q E => ∃ p, spF (kp B p) (T.fr g) (pmC (kp B p) (T.run n g)) vs H Q E
def spRI (B : KB) (T : Text) (n k g : Nat) : Sp := fun vs H Q E => ∃ p, spI (kp B p) k (pmC (kp B p) (T.run n g)) vs H Q E
def spTake (B : KB) : Sp := fun vs H Q E => ∃ p, spD (kp B p) (pmTake (kp B p)) vs H Q E
theorem spF_pre {K : KT} {fr : Bool} {p : Pm} {vs : List V} {H : Hp} {Q : VK} {E : XK} (h : spF K fr p vs H Q E) : ∃ W G ds, IsL K G ds vs ∧ p.pre W ds := by
  cases fr with
  | false => obtain ⟨W, G, ds, _, i, z, _⟩ := h; exact ⟨W, G, ds, i, z⟩
  | true => obtain ⟨W, G, ds, _, i, z, _⟩ := h; exact ⟨W, G, ds, i, z⟩
theorem fn_run0 {T : Text} {g : Nat} : FnG Pg w B.K mg base k f fd ps (spR B T 0 g) := ⟨fun vs H Q E ⟨_, h⟩ => by obtain ⟨_, _, _, _, z⟩ := spF_pre h; exact z.elim, fun _ _ _ _ _ _ _ _ _ _ _ _ _ _ ⟨_, h⟩ => by obtain ⟨_, _, _, _, z⟩ := spF_pre h; exact z.elim⟩
/-- what the written part has of a text -/
structure TxOk (B : KB) (T : Text) (con : Nat → Addr) : Prop where
  con : ∀ p k G, Is (kp B p) G (T.con k) (.ref (con k))
  xf : B.xf = T.xf
  fld : B.fld = T.fld
  cl : ∀ k, T.fld k ≠ [] → Cls B.K (B.cls k) ∧ (T.fld k).Nodup ∧ (T.fld k).length < 1000 ∧ ∀ f ∈ T.fld k, NoAttr B.K (B.cls k) f
  sub : ∀ a b r, T.sub a b = some r → PySem.W.exmOne B.K (.ref (B.cls a)) (.ref (B.cls b)) = some r
  isc : ∀ j k b, T.isc (some j) k = some b → InsT B.K (B.cls j) ∧ PySem.W.kitOne B.K (.ref (B.cls j)) (.ref (B.cls k)) = some b
  isn : ∀ k b, T.isc none k = some b → ∀ n ∈ tyns, PySem.W.kitOne B.K (.type n) (.ref (B.cls k)) = some b
def sx0 : Addr × Value × Option Addr := (0, .none, none)
def dn (B : KB) (T : Text) (con : Nat → Addr) (n : Nat) (E : XK) : Dn := ⟨B, fun g => spR B T n g, T.ok, con, spTake B, .out E, sx0, fun k g => spRI B T n k g⟩
theorem sd_ofX {T : Text} {con : Nat → Addr} (X : TxOk B T con) {c : Cn} {p : Addr} (e : c.K = kp B p) (n : Nat) (E : XK) (sx : Addr × Value × Option Addr) : Sd c { dn B T con n E with sx := sx } (T.pgm n) := by
  refine ⟨by rw [e]; rfl, fun f vs H Q E h => ⟨p, by rw [e] at h; exact h⟩, rfl, fun k G => by rw [e]; exact X.con p k G, by rw [e]; exact X.xf, fun vs H Q E h => ⟨p, by rw [e] at h; exact h⟩, by rw [e]; exact X.fld, fun k hk => by rw [e]; exact X.cl k hk, fun k f vs H Q E h => ⟨p, by rw [e] at h; exact h⟩, fun a b r h => by rw [e]; exact X.sub a b r h, fun j k b h => by rw [e]; exact X.isc j k b h, fun k b h => by rw [e]; exact X.isn k b h⟩
theorem sd_of {T : Text} {con : Nat → Addr} (X : TxOk B T con) {c : Cn} {p : Addr} (e : c.K = kp B p) (n : Nat) (E : XK) : Sd c (dn B T con n E) (T.pgm n) := sd_ofX X e n E sx0
theorem abs_start {d : Df} {N : List Str} (hN : N.length = d.vars) (ds : List D) : Abs B sx0 (slots ds N) (startD d ds) := by
  refine ⟨by simp [slots, startD, hN], fun i s v e e' => ?_⟩
  unfold slots at e
  unfold startD at e'
  by_cases hi : i < ds.length
  · rw [List.getElem?_append_left (by simpa using hi), List.getElem?_map] at e e'
    cases z : ds[i]? with
    | none => rw [z] at e; cases e
    | some d => rw [z] at e e'; cases e; cases e'; exact rfl
  · rw [List.getElem?_append_right (by simpa using Nat.le_of_not_lt hi)] at e'
    have := List.mem_of_getElem? e'
    rw [List.mem_replicate] at this
    rw [this.2]; trivial
theorem body_runF {T : Text} {con : Nat → Addr} (X : TxOk B T con) {n g : Nat} {d : Df} (hd : T.df g = some d) (hi : T.ini g = none) (hfr : T.fr g = true) {N : List Str} (hN : N.length = d.vars) {vs : List V} {H : Hp} {Q : VK} {E : XK} {pa : Addr} (h : spF (kp B pa) true (pmC (kp B pa) (T.run (n + 1) g)) vs H Q E) :
    (denS (dn B T con n E) d.body).ts ⟨fun _ h => Q .non h, Q, fun _ _ => False, fun _ _ => False⟩ (L2.start N vs) H := by
  obtain ⟨W, G, ds, o, i, hp, hq, hq2, hx⟩ := h
  have hp : All (W = HandW (kp B pa) pa) (fun _ => True) (fun _ => True) (T.run (n + 1) g ds) := hp
  have hs := hp.self
  generalize hT : T.run (n + 1) g ds = t at hs
  have e : T.run (n + 1) g ds = runF (T.pgm n) d ds := by
    show (match T.df g with | some d => (match T.ini g with | none => (match T.fr g with | false => runD _ d ds | true => runF _ d ds) | some c => runI _ c d ds) | none => bad) = _
    rw [hd, hi, hfr]; rfl
  have gen : ∀ u, u = t → All (W = HandW (kp B pa) pa) (fun b => Ret b t) (fun x => Tr.Exn x t) u := fun u h => h ▸ hs
  have hs2 := gen (runF (T.pgm n) d ds) (e.symm.trans hT)
  unfold runF at hs2
  obtain ⟨hl, hs2⟩ := all_ite hs2
  have hs3 := hs2.of_mapX.bind
  let c : Cn := ⟨kp B pa, W, G, H, true⟩
  have hz : SnkOk c (dn B T con n E) (fun _ x => Tr.Exn x t) := by
    intro q ρ G' H' s' dx xs x hx' A Sx Rx e1 e2 e3
    exact hx G' H' (B.cls x.c) dx (B.xf x.c) x.ds xs ⟨x, by rw [hT]; exact hx', rfl, rfl, rfl⟩ Sx e1 e2 e3
  have fin : wpS c (denS (dn B T con n E) d.body).ts (slots ds N) ⟨fun _ => False, fun _ d => Tr.Ret d t, fun _ => False, fun _ => False⟩ := by
    refine sndS d.body c (dn B T con n E) (fun _ x => Tr.Exn x t) (sd_of X (p := pa) rfl n E) hz _ _ (startD d ds) (abs_start hN ds) (hs3.mono (fun fl hfl => ?_) fun y hy => ?_)
    · cases fl with
      | rf v ρ => exact ⟨rfl, fun _ _ => hfl⟩
      | nx ρ => exact hfl.elim
      | rt v ρ =>
        cases v with
        | tup l => exact ⟨.inr ⟨l, rfl⟩, fun _ _ => hfl⟩
        | _ => exact hfl.elim
      | bk ρ => exact hfl.elim
      | ct ρ => exact hfl.elim
    · exact hy
  refine fin _ _ G H (Stp.refl o) (rel_start N i) ⟨fun s' H' G' q' a => a.elim, fun v H' G' d' s' q' a _ S' i' _ => ?_, fun _ _ _ _ a => a.elim, fun _ _ _ _ a => a.elim⟩
  rcases i' with ⟨a', es, xs, rfl, rfl, e1, e2, e3, e4, e5⟩ | ⟨l, rfl, i'⟩
  case inr => exact hq2 G' H' v l (by show Tr.Ret _ (T.run (n + 1) g ds); rw [hT]; exact a) S' i'
  have := hq G' (butH H' a') a' xs es (by show Tr.Ret _ (T.run (n + 1) g ds); rw [hT]; exact a) (Stp.but e3 e2 e4 S') butH_eq e5
  rw [upd_but e1] at this
  exact this
theorem body_run {T : Text} {con : Nat → Addr} (X : TxOk B T con) {n g : Nat} {d : Df} (hd : T.df g = some d) (hi : T.ini g = none) {N : List Str} (hN : N.length = d.vars) {vs : List V} {H : Hp} {Q : VK} {E : XK} (h : spR B T (n + 1) g vs H Q E) :
    (denS (dn B T con n E) d.body).ts ⟨fun _ h => Q .non h, Q, fun _ _ => False, fun _ _ => False⟩ (L2.start N vs) H := by
  obtain ⟨pa, h⟩ := h
  cases hfr : T.fr g with
  | true => exact body_runF X hd hi hfr hN (by rw [hfr] at h; exact h)
  | false =>
  rw [hfr] at h
  obtain ⟨W, G, ds, o, i, hp, hq, hx⟩ := h
  have hp : All (W = HandW (kp B pa) pa) (fun _ => True) (fun _ => True) (T.run (n + 1) g ds) := hp
  have hs := hp.self
  generalize hT : T.run (n + 1) g ds = t at hs
  have e : T.run (n + 1) g ds = runD (T.pgm n) d ds := by
    show (match T.df g with | some d => (match T.ini g with | none => (match T.fr g with | false => runD _ d ds | true => runF _ d ds) | some c => runI _ c d ds) | none => bad) = _
    rw [hd, hi, hfr]; rfl
  have gen : ∀ u, u = t → All (W = HandW (kp B pa) pa) (fun b => Ret b t) (fun x => Tr.Exn x t) u := fun u h => h ▸ hs
  have hs2 := gen (runD (T.pgm n) d ds) (e.symm.trans hT)
  unfold runD at hs2
  obtain ⟨hl, hs2⟩ := all_ite hs2
  have hs3 := hs2.of_mapX.bind
  let c : Cn := ⟨kp B pa, W, G, H, false⟩
  have hz : SnkOk c (dn B T con n E) (fun _ x => Tr.Exn x t) := by
    intro q ρ G' H' s' dx xs x hx' A Sx Rx e1 e2 e3
    exact hx G' H' (B.cls x.c) dx (B.xf x.c) x.ds xs ⟨x, by rw [hT]; exact hx', rfl, rfl, rfl⟩ Sx e1 e2 e3
  have fin : wpS c (denS (dn B T con n E) d.body).ts (slots ds N) ⟨fun _ => Tr.Ret .non t, fun _ d => Tr.Ret d t, fun _ => False, fun _ => False⟩ := by
    refine sndS d.body c (dn B T con n E) (fun _ x => Tr.Exn x t) (sd_of X (p := pa) rfl n E) hz _ _ (startD d ds) (abs_start hN ds) (hs3.mono (fun fl hfl => ?_) fun y hy => ?_)
    · cases fl with
      | nx ρ => exact fun _ _ => hfl
      | rt v ρ => exact ⟨.inl rfl, fun _ _ => hfl⟩
      | rf v ρ => exact hfl.elim
      | bk ρ => exact hfl.elim
      | ct ρ => exact hfl.elim
    · exact hy
  exact fin _ _ G H (Stp.refl o) (rel_start N i) ⟨fun s' H' G' q' a _ S' _ => hq G' H' .non .non (by show Tr.Ret _ (T.run (n + 1) g ds); rw [hT]; exact a) S' rfl, fun v H' G' d' s' q' a _ S' i' _ => hq G' H' v d' (by show Tr.Ret _ (T.run (n + 1) g ds); rw [hT]; exact a) S' i', fun _ _ _ _ a => a.elim, fun _ _ _ _ a => a.elim⟩
theorem spR_len {T : Text} {n g : Nat} {d : Df} (hd : T.df g = some d) (hi : T.ini g = none) (hp : ps.length = d.ps) : ∀ vs H Q E, spR B T (n + 1) g vs H Q E → vs.length = ps.length := fun vs H Q E ⟨_, h⟩ => by
  obtain ⟨W, G, ds, i, h⟩ := spF_pre h
  have h : All _ (fun _ => True) (fun _ => True) (T.run (n + 1) g ds) := h
  cases hfr : T.fr g with
  | false =>
    have e : T.run (n + 1) g ds = runD (T.pgm n) d ds := by
      show (match T.df g with | some d => (match T.ini g with | none => (match T.fr g with | false => runD _ d ds | true => runF _ d ds) | some c => runI _ c d ds) | none => bad) = _
      rw [hd, hi, hfr]; rfl
    rw [e] at h
    obtain ⟨hl, _⟩ := all_ite (show All _ _ _ (if ds.length = d.ps then _ else bad) from h)
    rw [IsL.len i, hl, hp]
  | true =>
    have e : T.run (n + 1) g ds = runF (T.pgm n) d ds := by
      show (match T.df g with | some d => (match T.ini g with | none => (match T.fr g with | false => runD _ d ds | true => runF _ d ds) | some c => runI _ c d ds) | none => bad) = _
      rw [hd, hi, hfr]; rfl
    rw [e] at h
    obtain ⟨hl, _⟩ := all_ite (show All _ _ _ (if ds.length = d.ps then _ else bad) from h)
    rw [IsL.len i, hl, hp]
/-- THE RULE: a def keeps the promise of its number -/
theorem fn_R {T : Text} {con : Nat → Addr} (X : TxOk B T con) {n g : Nat} {d : Df} (hd : T.df g = some d) {x qual : Str} {st : Stmt} {N : List Str} (F : Fun B.K x qual st f fd) (S : FnScope N ps (defScope st)) (hN : N.length = d.vars) (hp : ps.length = d.ps) (hi : T.ini g = none)
    (h : ∀ (cdv : Value) (A : Around) (outer : List Env) (s : Shared) (H : Hp) (E : XK), A.guards = some [] → Room k (A.deeper (envOfC qual (defScope st) s.heap.objs.size f cdv)) →
      PSs (cxOf (L2N.CX Pg w) Pg w B.K mg base N qual (defScope st) f cdv A outer s H E) (defBody st) (denS (dn B T con n E) d.body).ts) : FnG Pg w B.K mg base (k + 1) f fd ps (spR B T (n + 1) g) :=
  fnG_of F S (spR_len hd hi hp) fun cdv A outer s H vs Q E gs hr h1 => ⟨_, h cdv A outer s H E gs hr, body_run X hd hi hN h1⟩
theorem fn_RD {T : Text} {con : Nat → Addr} (X : TxOk B T con) {n g : Nat} {d : Df} (hd : T.df g = some d) {x qual : Str} {params : Arguments} {body : List Stmt} {scope : Scope} {dvs : List V} {kws : List (Str × V)} {N : List Str} (F : FunD B.K x qual params body scope dvs kws f fd) (S : FnScope N ps scope) (hN : N.length = d.vars) (hp : ps.length = d.ps) (hi : T.ini g = none)
    (h : ∀ (cdv : Value) (A : Around) (outer : List Env) (s : Shared) (H : Hp) (E : XK), A.guards = some [] → Room k (A.deeper (envOfC qual scope s.heap.objs.size f cdv)) →
      PSs (cxOf (L2N.CX Pg w) Pg w B.K mg base N qual scope f cdv A outer s H E) body (denS (dn B T con n E) d.body).ts) : FnG Pg w B.K mg base (k + 1) f fd ps (spR B T (n + 1) g) :=
  fnG_ofD F S (spR_len hd hi hp) fun cdv A outer s H vs Q E gs hr h1 => ⟨_, h cdv A outer s H E gs hr, body_run X hd hi hN h1⟩
theorem intsC {K1 K2 : KT} {G : Hp} : ∀ {ns : List Int} {xs : List V}, IsL K1 G (ns.map D.int) xs → IsL K2 G (ns.map D.int) xs
  | [], _, h => h
  | n :: ns, _, ⟨x, r, e, h1, h2⟩ => ⟨x, r, e, h1, intsC h2⟩
theorem handC {K1 K2 : KT} {G : Hp} {k : Nat} {ds : List D} {xs : List V} (hi : HInv k ds) (h : IsL K1 G ds xs) : IsL K2 G ds xs := by
  match k, hi with
  | 0, ⟨cells, i, r, t, e0, _⟩ =>
    subst e0
    obtain ⟨x, r', e, ⟨a, ys, h1, h2, h3⟩, h4⟩ := h
    exact ⟨x, r', e, ⟨a, ys, h1, h2, intsC h3⟩, intsC (ns := [i, r, t]) h4⟩
  | _ + 1, ⟨cells, i, r, n, s, e0, _⟩ =>
    subst e0
    obtain ⟨x, r', e, ⟨a, ys, h1, h2, h3⟩, h4⟩ := h
    exact ⟨x, r', e, ⟨a, ys, h1, h2, intsC h3⟩, intsC (ns := [i, r, n, s]) h4⟩
theorem handW_eq (K1 K2 : KT) (ek : K1.hk = K2.hk) (p : Addr) : HandW K1 p = HandW K2 p := by
  have e : (HandW K1 p).J = (HandW K2 p).J := by
    funext G H
    refine propext ⟨fun ⟨xs, ds, a, b, d⟩ => ⟨xs, ds, a, handC d b, ek ▸ d⟩, fun ⟨xs, ds, a, b, d⟩ => ⟨xs, ds, a, handC d b, ek ▸ d⟩⟩
  have e2 : (HandW K1 p).M = (HandW K2 p).M := rfl
  cases h1 : HandW K1 p with
  | mk M J s =>
    cases h2 : HandW K2 p with
    | mk M2 J2 s2 =>
      rw [h1, h2] at e e2
      cases e; cases e2
      rfl
/-- the law: its first statement makes the hand, the rest is asked of every hand -/
theorem fn_lawR {T : Text} {con : Nat → Addr} (X : TxOk B T con) {n : Nat} {x qual : Str} {st : Stmt} {N : List Str} {body : SS} (F : Fun B.K x qual st f fd) (S : FnScope N ps (defScope st)) (hl : ps.length = 1) (hN : 1 < N.length) {E0' : L2.St → XK} {m : Nat} (hm : N.length = m)
    (h : ∀ (cdv : Value) (A : Around) (outer : List Env) (s : Shared) (H : Hp) (E : XK), A.guards = some [] → Room k (A.deeper (envOfC qual (defScope st) s.heap.objs.size f cdv)) →
      PSs (cxOf (L2N.CX Pg w) Pg w B.K mg base N qual (defScope st) f cdv A outer s H E) (defBody st) (tSeq (tAsg (tCallSD (spNew (kp B 0)) [] E0' (tCons (tVar 0) tNil)) (gName 1)) (denS (dn B T con n E) body).ts))
    (law : All True (fun fl => match fl with | .rt d _ => d = .bl true | _ => False) (fun _ => False) (evalS (T.pgm n) body none (.unk :: .dat .hand :: List.replicate (m - 2) .unk))) :
    FnG Pg w B.K mg base (k + 1) f fd ps (spLaw (kp B 0)) := by
  refine fnG_of F S (fun vs H Q E ⟨G, ns, _, i, _⟩ => by rw [IsL.len i, hl]; rfl) fun cdv A outer s H vs Q E gs hr h1 => ?_
  obtain ⟨G, ns, o, iv, hz, hq⟩ := h1
  refine ⟨_, h cdv A outer s H E gs hr, ?_⟩
  have R0 : Rel (kp B 0) W0 H G H (L2.start N vs) (slots [.scr (ns.map D.int)] N) := rel_start N iv
  obtain ⟨v', e0, i1⟩ := R0.dat 0 (.scr (ns.map D.int)) rfl
  refine ⟨v', e0, G, ns, o, ⟨v', [], rfl, i1, rfl⟩, hz, fun G' H' p o' T' => ?_⟩
  have hlen : 1 < (slots [D.scr (ns.map D.int)] N).length := by simp [slots]; omega
  have R0' : Rel (kp B p) W0 H G' H' (L2.start N vs) (slots [.scr (ns.map D.int)] N) := by
    refine (rel_start N ?_ : Rel (kp B p) W0 H G H (L2.start N vs) (slots [.scr (ns.map D.int)] N)).step T'
    obtain ⟨v, rfl, a, xs, rfl, h1, h2⟩ := IsL.one_of iv
    exact ⟨_, [], rfl, ⟨a, xs, rfl, h1, intsC h2⟩, rfl⟩
  have R1 := R0'.setD (i := 1) (d := .hand) (v := .ref p) rfl hlen
  have no : ∀ (i : Nat) (a : Addr) (ds : List D), ((slots [D.scr (ns.map D.int)] N).set 1 (.dat .hand))[i]? = some (.own a ds) → False := fun i a ds z => by
    rcases set_get z with ⟨_, z⟩ | ⟨_, z⟩
    · cases z
    · have := List.mem_of_getElem? z
      simp at this
  let c : Cn := ⟨kp B p, HandW (kp B p) p, G', H', false⟩
  have Ab : Abs B sx0 ((slots [D.scr (ns.map D.int)] N).set 1 (.dat .hand)) (.unk :: .dat .hand :: List.replicate (m - 2) .unk) := by
    refine ⟨by simp [slots]; omega, fun i s v e e' => ?_⟩
    match i, e' with
    | 0, e' => cases e'; trivial
    | 1, e' =>
      cases e'
      rcases set_get e with ⟨_, z⟩ | ⟨z, _⟩
      · exact z.symm
      · exact absurd rfl z
    | i + 2, e' =>
      have := List.mem_of_getElem? (show (List.replicate (m - 2) Sv.unk)[i]? = some v from e')
      rw [List.mem_replicate] at this
      rw [this.2]; trivial
  have fin : wpS c (denS (dn B T con n E) body).ts ((slots [D.scr (ns.map D.int)] N).set 1 (.dat .hand)) ⟨fun _ => False, fun _ d => d = .bl true, fun _ => False, fun _ => False⟩ := by
    refine sndS body c (dn B T con n E) (fun _ _ => False) (sd_of X (p := p) rfl n E) (fun _ _ _ _ _ _ _ _ z => z.elim) _ _ _ Ab ?_
    have conv : ∀ {t : RS} {P : Fl → Prop} {Y : Xn × Vars → Prop}, All True P Y t → All (hdC c) P Y t := by
      intro t
      induction t with
      | ret a => intro P Y h; exact h
      | exn a => intro P Y h; exact h
      | bad => intro P Y h; exact h
      | draw m k ih => intro P Y h; exact ⟨rfl, h.2.1, h.2.2.1, fun v v0 v1 => ih v (h.2.2.2 v v0 v1)⟩
    refine (conv law).mono (fun fl hfl => ?_) fun _ z => z
    cases fl with
    | rt d ρ => exact ⟨.inl rfl, fun _ _ => hfl⟩
    | _ => exact hfl.elim
  have o2 : Ok (HandW (kp B p) p) G' H' := handW_eq (kp B 0) (kp B p) rfl p ▸ o'
  refine fin _ _ G' H' (Stp.refl o2) ⟨R1.len, R1.dat, fun i a ds z => (no i a ds z).elim, fun i j a b a' _ z _ => (no i a' a z).elim, fun p' dx k ds z => by
    rcases set_get z with ⟨_, z⟩ | ⟨_, z⟩
    · cases z
    · have := List.mem_of_getElem? z
      simp at this⟩
    ⟨fun _ _ _ _ z => z.elim, fun v H2 G2 d s' q' z _ _ i2 _ => ?_, fun _ _ _ _ z => z.elim, fun _ _ _ _ z => z.elim⟩
  cases z
  cases (show v = V.bl true from i2)
  exact hq H2
end
end Ez
set_option Elab.async false
set_option linter.all false
set_option maxRecDepth 100000
namespace Ez
open L2 PySem PyProof.Rows PySem.Spec
open Tr
section
variable {Pg : Program} {w : World} {B : KB} {mg : Str → Option Value} {base : Heap} {ps : List Str} {k : Nat} {f : Addr} {fd : FuncData}
theorem rel_startI {K : KT} {W : Wd} {H1 G : Hp} {ds : List D} {ws : List V} {x dx : Addr} {c : Nat} (N : List Str) (o : Ok W G H1) (hx : H1 x = none) (h : IsL K G ds ws) :
    Rel K W H1 G (upd (upd H1 dx (.own x)) x (.ins (K.cls c) dx [])) (L2.start N (.ref x :: ws)) (.obj x dx c [] :: (ds.map Sl.dat ++ List.replicate (N.length - (ds.length + 1)) Sl.unk)) := by
  have r0 : Rel K W H1 G (upd (upd H1 dx (.own x)) x (.ins (K.cls c) dx [])) (L2.start N (.ref x :: ws)) ((D.adr x :: ds).map Sl.dat ++ List.replicate (N.length - (D.adr x :: ds).length) Sl.unk) := rel_start N ⟨_, ws, rfl, rfl, h⟩
  have no : ∀ {j : Nat} {a : Addr} {e : List D}, (ds.map Sl.dat ++ List.replicate (N.length - (ds.length + 1)) Sl.unk)[j]? = some (Sl.own a e) → False := fun {j a e} z => by
    have := List.mem_of_getElem? z
    simp at this
  refine ⟨r0.len, fun j d e => ?_, fun j a e z => ?_, fun j l a b p n za zb => ?_, fun p dy k es z => ?_⟩
  · cases j with
    | zero => cases e
    | succ j => exact r0.dat (j + 1) d e
  · cases j with
    | zero => cases z
    | succ j => exact (no (j := j) z).elim
  · cases j with
    | zero => cases za
    | succ j => exact no (j := j) za
  · cases z
    exact ⟨[], rfl, upd_same, Nat.zero_le _, none_of_sub o.sub hx, hx, o.notM hx, rfl⟩
theorem abs_startI {d : Df} {N : List Str} (hN : N.length = d.vars) (ds : List D) {x dx : Addr} {c : Nat} (hl : ds.length + 1 ≤ d.vars) :
    Abs B (x, .none, some dx) (.obj x dx c [] :: (ds.map Sl.dat ++ List.replicate (N.length - (ds.length + 1)) Sl.unk)) (startI c d ds) := by
  refine ⟨by simp [startI, hN], fun i s v e e' => ?_⟩
  unfold startI at e'
  cases i with
  | zero =>
    cases e; cases e'
    exact ⟨dx, rfl, rfl⟩
  | succ i =>
    rw [List.getElem?_cons_succ] at e e'
    by_cases hi : i < ds.length
    · rw [List.getElem?_append_left (by simpa using hi), List.getElem?_map] at e e'
      cases z : ds[i]? with
      | none => rw [z] at e; cases e
      | some d => rw [z] at e e'; cases e; cases e'; exact rfl
    · rw [List.getElem?_append_right (by simpa using Nat.le_of_not_lt hi)] at e'
      have := List.mem_of_getElem? e'
      rw [List.mem_replicate] at this
      rw [this.2]; trivial
theorem run_ini {T : Text} {n g c : Nat} {d : Df} (hd : T.df g = some d) (hi : T.ini g = some c) (ds : List D) : T.run (n + 1) g ds = runI (T.pgm n) c d ds := by
  show (match T.df g with | some d => (match T.ini g with | none => (match T.fr g with | false => runD _ d ds | true => runF _ d ds) | some c => runI _ c d ds) | none => bad) = _
  rw [hd, hi]; rfl
theorem spRI_len {T : Text} {n g c : Nat} {d : Df} (hd : T.df g = some d) (hi : T.ini g = some c) (hp : ps.length = d.ps) : ∀ vs H Q E, spRI B T (n + 1) c g vs H Q E → vs.length = ps.length := fun vs H Q E ⟨_, W, G, H1, x, dx, ds, ws, e, _, _, _, _, _, i, h, _⟩ => by
  have h : All _ (fun _ => True) (fun _ => True) (T.run (n + 1) g ds) := h
  rw [run_ini hd hi] at h
  obtain ⟨hl, _⟩ := all_ite (show All _ _ _ (if ds.length + 1 = d.ps then _ else bad) from h)
  rw [e, List.length_cons, IsL.len i, hl, hp]
theorem fn_RI {T : Text} {con : Nat → Addr} (X : TxOk B T con) {n g c : Nat} {d : Df} (hd : T.df g = some d) (hi : T.ini g = some c) {x qual : Str} {st : Stmt} {N : List Str} (F : Fun B.K x qual st f fd) (S : FnScope N ps (defScope st)) (hN : N.length = d.vars) (hp : ps.length = d.ps) (hv : d.ps ≤ d.vars)
    (h : ∀ (cdv : Value) (A : Around) (outer : List Env) (s : Shared) (H : Hp) (E : XK) (sx : Addr × Value × Option Addr), A.guards = some [] → Room k (A.deeper (envOfC qual (defScope st) s.heap.objs.size f cdv)) →
      PSs (cxOf (L2N.CX Pg w) Pg w B.K mg base N qual (defScope st) f cdv A outer s H E) (defBody st) (denS { dn B T con n E with sx := sx } d.body).ts) : FnG Pg w B.K mg base (k + 1) f fd ps (spRI B T (n + 1) c g) := by
  refine fnG_of F S (spRI_len hd hi hp) fun cdv A outer s H vs Q E gs hr h1 => ?_
  obtain ⟨pa, W, G, H1, x, dx, ds, ws, rfl, hx, hdx, ne, rfl, o, i, hp1, hq, hz1⟩ := h1
  refine ⟨_, h cdv A outer s _ E (x, .none, some dx) gs hr, ?_⟩
  have hp1 : All (W = HandW (kp B pa) pa) (fun _ => True) (fun _ => True) (T.run (n + 1) g ds) := hp1
  have hs := hp1.self
  generalize hT : T.run (n + 1) g ds = t at hs
  have gen : ∀ u, u = t → All (W = HandW (kp B pa) pa) (fun b => Ret b t) (fun x => Tr.Exn x t) u := fun u h => h ▸ hs
  have hs2 := gen (runI (T.pgm n) c d ds) ((run_ini hd hi ds).symm.trans hT)
  unfold runI at hs2
  obtain ⟨hl, hs2⟩ := all_ite hs2
  have hs3 := hs2.of_mapX.bind
  let C : Cn := ⟨kp B pa, W, G, H1, false⟩
  have S0 : C.S G (upd (upd H1 dx (.own x)) x (.ins (B.cls c) dx [])) := ((Stp.refl o).put hdx (none_of_sub o.sub hdx) (o.notM hdx)).put hx (none_of_sub o.sub hx) (o.notM hx)
  have hz : SnkOk C { dn B T con n E with sx := (x, .none, some dx) } (fun _ x => Tr.Exn x t) := by
    intro q ρ G' H' s' dy xs x hx' A Sx Rx e1 e2 e3
    exact hz1 G' H' (B.cls x.c) dy (B.xf x.c) x.ds xs ⟨x, by rw [hT]; exact hx', rfl, rfl, rfl⟩ Sx e1 e2 e3
  have fin : wpS C (denS { dn B T con n E with sx := (x, .none, some dx) } d.body).ts (.obj x dx c [] :: (ds.map Sl.dat ++ List.replicate (N.length - (ds.length + 1)) Sl.unk))
      ⟨fun q => ∃ dy k es, q[0]? = some (.obj x dy k es) ∧ es.length = (T.fld k).length ∧ Tr.Ret (.ins k es) t, fun _ _ => False, fun _ => False, fun _ => False⟩ := by
    refine sndS d.body C { dn B T con n E with sx := (x, .none, some dx) } (fun _ x => Tr.Exn x t) (sd_ofX X (p := pa) rfl n E _) hz _ _ (startI c d ds) (abs_startI hN ds (by omega)) (hs3.mono (fun fl hfl => ?_) fun y hy => hy)
    cases fl with
    | nx ρ =>
      intro q A
      have hfl : All (W = HandW (kp B pa) pa) (fun b => Ret b t) (fun y : Xn × Vars => Tr.Exn y.1 t) (match ρ[0]? with
        | some (Sv.obj k es) => if es.length = ((T.pgm n).fld k).length then ret (.ins k es) else bad
        | _ => bad) := hfl
      split at hfl
      · rename_i k es e1
        obtain ⟨e2, e3⟩ := all_ite hfl
        obtain ⟨s0, e4, dy, rfl, _⟩ := A.at e1
        exact ⟨dy, k, es, e4, e2, e3⟩
      · exact hfl.elim
    | rt v ρ => exact hfl.elim
    | rf v ρ => exact hfl.elim
    | bk ρ => exact hfl.elim
    | ct ρ => exact hfl.elim
  refine fin _ _ G _ S0 (rel_startI N o hx i) ⟨fun s' H' G' q' a _ S' R' => ?_, fun _ _ _ _ _ _ a => a.elim, fun _ _ _ _ a => a.elim, fun _ _ _ _ a => a.elim⟩
  obtain ⟨dy, k, es, e1, e2, e3⟩ := a
  obtain ⟨xs, f1, f2, f3, f4, f5, f6, f7⟩ := R'.obj x dy k es e1
  have fl : (kp B pa).fld k = T.fld k := by rw [← X.fld]; rfl
  have full : ((kp B pa).fld k).take es.length = (kp B pa).fld k := List.take_of_length_le (by rw [fl, e2]; exact Nat.le_refl _)
  rw [full] at f2
  exact hq _ H' (.ins k es) (by show Tr.Ret _ (T.run (n + 1) g ds); rw [hT]; exact e3) (S'.keep f5 f4 f2 f6) ⟨x, dy, xs, rfl, upd_same, by rw [fl, e2], IsL.mono (Ex.new f4) _ f7⟩
theorem fn_runI0 {T : Text} {c g : Nat} : FnG Pg w B.K mg base k f fd ps (spRI B T 0 c g) := ⟨fun vs H Q E ⟨_, W, G, H1, x, dx, ds, ws, _, _, _, _, _, _, _, z, _⟩ => z.elim, fun _ _ _ _ _ _ _ _ _ _ _ _ _ _ ⟨_, W, G, H1, x, dx, ds, ws, _, _, _, _, _, _, _, z, _⟩ => z.elim⟩
end
end Ez
set_option Elab.async false
set_option linter.all false
set_option maxRecDepth 100000
namespace Ez
open L2 PySem PyProof.Rows PySem.Spec
open Tr
theorem hu65 {A : Around} {k : Nat} (h : Room k A) : A.units + 65 < cLine := by
  have := h.un
  omega
section
variable {X : Cx}
theorem passN : Passes (L2N.CX X.prog X.w) X E0 := fun _ _ _ _ _ _ _ h => by
  obtain ⟨_, _, _, _, _, _, _, _, _, _, _, _, z⟩ := h
  exact z.elim
theorem takesN : L2N.Takes X (fun _ _ _ _ => False) := fun _ _ h => by
  obtain ⟨_, _, _, _, _, _, _, _, _, _, _, _, _, _, _, _, z⟩ := h
  exact z.elim
theorem px_no : ∀ σ, PassesAt (L2N.CX X.prog X.w) X σ (Snk.no.at σ) := fun σ pins H s u s2 I z => passN pins σ H s u s2 I z
section
variable {CX : CXT} {x : Str} {C fI : Addr} {k : Nat} {fd : FuncData} {ps : List Str} {sp : Sp} {ds : List Value} {dvs : List V} {e : Expr} {es : List Expr} {ta : TA} {p pos : Pos}
/-- an exception with an __init__ of its own, its context is None -/
theorem pmk_oexN (T : OexC X.K C) (iC : PySem.W.findIn X.K (.ref C) "__init__" = some (some (.ref fI))) (tI : PySem.W.typeIn X.K (.ref fI) = some (.type "function")) (F1 : FnOk X.prog X.w X.K X.mg X.base CX k fI fd ps sp) (hr : Room (k + 1) X.A) (hb : Binds X.K fd ps ds) (hd : Vals dvs ds) (hx : Passes CX X (fun _ _ _ => False)) (hg : Gl X x) (hm : X.mg x = some (.ref C)) (ha : PA X (e :: es) ta)
    (hdb : (x == ("__debug__" : Str)) = false := by decide) (he : starEach (e :: es) X.env = (false, eval e X.env) :: starEach es X.env := by rfl) (hpl : (backTo pos (starEach es X.env)).any (·.1) = false := by rfl) : L2N.PMk X (.Call (.Name x p) (e :: es) [] pos) (tMkO C sp dvs ta) := by
  intro pins s σ H Q I wish
  obtain ⟨_, _, _, _, bm, _, _, _, _, _, _, _, _, _, _, look, good⟩ := T.cls
  refine wpAny_Call_Name_kw (ld_glob I hg (pos := p) hm ?_ hdb)
  refine PySem.W.callWith_K (h₀ := X.base) I.ok.mod.kin T.kC (thn (ha.run pos pins s σ H _ I wish) ?_) he hpl
  rintro us ⟨hp, g, dr, tk, os⟩ ⟨vs, H1, I1, r1, hz, q1⟩
  refine ⟨I1.kIn, ?_⟩
  show wpAny (model X.prog X.w) X.A (call (.ref C) us) _ _ _
  generalize hh : (hp.push (PySem.W.kdv_tup us)).push (PySem.HandSPX.excO C hp.objs.size) = hq
  have up : ∀ b o, hp.get? b = some o → hq.get? b = some o := fun b o z => hh ▸ Heap.get?_push_of_some _ (Heap.get?_push_of_some _ z)
  have le1 : hp.objs.size ≤ hp.objs.size + 1 := Nat.le_succ _
  have at1 : hq.get? (hp.objs.size + 1) = some (PySem.HandSPX.excO C hp.objs.size) := by rw [← hh]; heap_get
  have no1 : H1 (hp.objs.size + 1) = none := I1.hok.fresh le1
  have I2 : Inv X pins σ (upd H1 (hp.objs.size + 1) (exo (hp.objs.size + 1) C none)) ⟨hq, g, dr, tk, os⟩ := I1.laid (t' := tk) up le1 (exo_ok at1)
  have start := q1 (hp.objs.size + 1) no1
  have r2 : Vals (V.ref (hp.objs.size + 1) :: (vs ++ dvs)) (Value.ref (hp.objs.size + 1) :: (us ++ ds)) := .cons rfl (r1.append hd)
  have many : (Value.ref (hp.objs.size + 1) :: us ++ ds).length = ps.length := (F1.len _ _ _ _ start ▸ r2.length.symm : _)
  have few : us.length ≤ sizeLine := by
    have := Paired.length r1
    rw [sizeLine_eq]
    omega
  have run := F1.run _ X.stack _ _ ⟨Value.ref (hp.objs.size + 1) :: us, []⟩ _ _ _ (fun _ _ _ => False) (hr.make C us []) (I2.env0.make C us []) (hb _ (Value.ref (hp.objs.size + 1) :: us) I2.kIn many) r2 start
  rw [← hh] at run
  refine wpAny_call (PySem.HandSPX.call_own F.excBase_ValueError (fun Y => PySem.HandSPX.refsVE_contains Y bm good) (I1.kIn _ _ look) (PySem.W.looks_findIn I1.kIn iC) (fun self => PySem.W.bind_fn I1.kIn self tI) few (codeAny_mono run ?_))
  rw [hh]
  · rintro res ⟨h2, g2, d2, t2, os'⟩ z
    match res, z with
    | .error u, z => exact hx pins σ _ _ u _ I2 z
    | .ok (.ret u), z =>
      obtain ⟨v, H2, os2, bare2, un2, hok2, rv, ev, d, fs, ea, ed, hd1, q2⟩ := z
      subst ev
      refine ⟨rv, ?_⟩
      obtain ⟨t0, G, J, kG, ge, hoe, na⟩ := mk_end0 (d2 := d2) (t2 := t2) I1 le1 up un2 hok2 os2 bare2 ea ed hd1
      exact ⟨_, _, _, ⟨G, g2, d2, t2, os'⟩, _, .ref C, some d, rfl, J, kG, ge, hoe, ⟨rfl, rfl, fun vs e => by cases e; rfl⟩, rfl, rfl, na, rfl, bare2, raises_own T.exC T.tyC, q2⟩
    | .ok .next, z => exact z.elim
    | .ok .brk, z => exact z.elim
    | .ok .cont, z => exact z.elim
end
theorem px_out {E : XK} (tk : L2N.Takes X (fun cls d _ H => E cls d H)) : ∀ σ, PassesAt (L2N.CX X.prog X.w) X σ ((Snk.out E).at σ) := fun σ pins H s u s2 I z => L2N.passes_call tk (fun _ _ _ _ h => h) pins σ H s u s2 I z
theorem px_tr {W : WX} (tk : L2N.Takes X W) : ∀ σ, PassesAt (L2N.CX X.prog X.w) X σ ((Snk.tr W).at σ) := fun σ => L2N.passAt tk σ
theorem call_reprA (hg : X.A.guards = some []) (hu : X.A.units + 64 < cLine) : CallR X (.builtin "repr") (rReprA X.K) := by
  intro pins s0 σ H xs us Q I rel h
  obtain ⟨v, d, rfl, hd, hs, hn, hp, hz, q⟩ := h
  obtain ⟨u, rfl, ru⟩ := vals1 rel
  obtain ⟨as, rd⟩ := Dp.reads I d _ _ hd ru
  cases hd with
  | non => cases (show u = Value.none from ru); exact PySem.P.repr_of_none ⟨.str _, H, I.tok _, ⟨_, rfl⟩, q⟩
  | bl b => cases (show u = Value.bool b from ru); exact PySem.P.repr_of_bool ⟨.str _, H, I.tok _, ⟨_, rfl⟩, q⟩
  | int i =>
    obtain ⟨t, rfl⟩ := ru
    exact PySem.P.repr_of_int (of_decide_eq_true hs) ⟨.str _, H, I.tok _, ⟨_, rfl⟩, q⟩
  | str x =>
    obtain ⟨t, rfl⟩ := ru
    exact PySem.P.repr_of_str ⟨.str _, H, I.tok _, ⟨_, rfl⟩, q⟩ hz
  | lst h1 h2 =>
    have eu : u = Value.ref _ := ru
    subst eu
    refine PySem.repr_of_reads' rd hs (fun e => ?_) hg (by omega) (fun _ _ e => e) (fun h' t tk k => ⟨.str _, H, I.kept k, ⟨_, rfl⟩, q⟩) hz
    rw [hn] at e; cases e
  | tup h1 h2 =>
    have eu : u = Value.ref _ := ru
    subst eu
    refine PySem.repr_of_reads' rd hs (fun e => ?_) hg (by omega) (fun _ _ e => e) (fun h' t tk k => ⟨.str _, H, I.kept k, ⟨_, rfl⟩, q⟩) hz
    rw [hn] at e; cases e
theorem of_ex {body : List Stmt} {t' : TS} (h : ∃ t, PSs X body t ∧ t = t') : PSs X body t' := by
  obtain ⟨t, a, rfl⟩ := h; exact a
theorem lookup_mem {α β : Type} [BEq α] [LawfulBEq α] : ∀ {l : List (α × β)} {a : α} {b : β}, l.lookup a = some b → (a, b) ∈ l
  | [], _, _, h => by cases h
  | (x, y) :: l, a, b, h => by
    rw [List.lookup_cons] at h
    cases z : a == x with
    | true => rw [z] at h; cases h; rw [eq_of_beq z]; exact List.mem_cons_self
    | false => rw [z] at h; exact List.mem_cons_of_mem _ (lookup_mem h)
end
section
variable {X : Cx} {K : PySem.W.Frag}
theorem op_addK (e : X.K = K) : OpR X (binaryOp .Add) (rAdd K) := e ▸ op_addA
theorem op_mulK (e : X.K = K) : OpR X (binaryOp .Mult) (rMul K) := e ▸ op_mulA
theorem op_eqK (e : X.K = K) (hu : X.A.units + 64 < cLine) : OpR X (compareOp .Eq) (rEqD K) := e ▸ op_eqD hu
theorem op_neK (e : X.K = K) (hu : X.A.units + 64 < cLine) : OpR X (compareOp .NotEq) (rNeD K) := e ▸ op_neD hu
theorem op_inK (e : X.K = K) (hu : X.A.units + 65 < cLine) : OpR X (compareOp .In) (rOr (rInD K) (rInT K)) := e ▸ op_inA hu
theorem op_notInK (e : X.K = K) (hu : X.A.units + 65 < cLine) : OpR X (compareOp .NotIn) (rOr (rNotInD K) (rNotInT K)) := e ▸ op_notInA hu
theorem ix_seqK (e : X.K = K) : IxR X (rIx K) := e ▸ ix_seq
theorem sl_seqK (e : X.K = K) : SlR X (rSlQ K) := e ▸ sl_seq
theorem call_lenK (e : X.K = K) : CallR X (.builtin "len") (crLen K) := e ▸ call_len_seq
theorem call_listK (e : X.K = K) : CallR X (.type "list") (crList K) := e ▸ call_list_of
theorem call_tupK (e : X.K = K) : CallR X (.type "tuple") (crTup K) := e ▸ call_tuple_of
theorem call_isiK (e : X.K = K) : CallR X (.builtin "isinstance") (rIsi K) := e ▸ call_isi
theorem call_isiTK (e : X.K = K) : CallR X (.builtin "isinstance") (rIsiT K) := e ▸ call_isiT
theorem cr_min2K (e : X.K = K) (hc : X.calm = true) (hu : X.A.units + 64 < cLine) : CallR X (.builtin "min") (crMinQ K) := fun pins s σ H vs us Q I rv g => g.elim (call_min2 hc pins s σ H vs us Q I rv) ((e ▸ cr_min2A hc hu : CallR X (.builtin "min") (rMin2A K)) pins s σ H vs us Q I rv)
theorem pi_enumK (e0 : X.K = K) {e : Expr} {ta : TA} {p pos tpos : Pos} {elts : List Expr} {kk : Nat} (hg : Gl X "enumerate") (hm : X.mg "enumerate" = none) (ha : PA X [e] ta) (hs : starEach [e] X.env = [(false, eval e X.env)] := by rfl) :
    PI X (.Tuple elts kk tpos) (.Call (.Name "enumerate" p) [e] [] pos) (iEnumQ K ta) := e0 ▸ pi_enumQ hg hm ha hs
theorem cr_sumK (e : X.K = K) (hc : X.calm = true) : CallR X (.builtin "sum") (rSum K) := e ▸ cr_sum hc
theorem cr_sortedK (e : X.K = K) : CallR X (.builtin "sorted") (rSortC K) := cr_sortCK e
theorem call_reprK (e : X.K = K) (hg : X.A.guards = some []) (hu : X.A.units + 64 < cLine) : CallR X (.builtin "repr") (rReprA K) := e ▸ call_reprA hg hu
theorem pi_seqK (e : X.K = K) {tg l : Expr} {tl : TE} (hl : PE X l tl) : PI X tg l (iSeq K tl) := e ▸ pi_seq hl
theorem pg_seqK (e : X.K = K) {es : List Expr} {k : Nat} {t : TGs} {n : Nat} {pos : Pos} (hc : X.calm = true) (h : PGs X es t)
    (hn : (assignEach es X.env).length = n := by rfl) (hst : (assignEach es X.env).findIdx? (·.1) = none := by rfl) : PG X (.Tuple es k pos) (gSeq K n t) := e ▸ pg_seq hc h hn hst
theorem pe_fldK (e0 : X.K = K) {e : Expr} {te : TE} {f : Str} {pos : Pos} (he : PE X e te) (hb : attributeBase e f X.env (eval e X.env) = eval e X.env := by rfl) : PE X (.Attribute e f pos) (tFld K te f) := e0 ▸ pe_fld he hb
theorem ps_fldK (e0 : X.K = K) {o value : Expr} {ta tv : TE} {f : Str} {pos pos' : Pos} (ha : PE X o ta) (hv : PE X value tv) (hs : swapsWith value (some (.Attribute o f pos')) pos.line X.env = pure false := by rfl) : PS X (.Assign [.Attribute o f pos'] value pos) (sFld K ta tv f) := e0 ▸ ps_fld ha hv hs
theorem pe_notTK (e : X.K = K) {a : Expr} {ta : TE} {pos : Pos} (ha : PE X a ta) : PE X (.UnaryOp .Not a pos) (tNotT K ta) := e ▸ pe_notT ha
end
end Ez
namespace Ez
open L2 PySem PyProof.Rows PySem.Spec
def kt0 (K : PySem.W.Frag) : KT := ⟨⟨K, fun _ => 0, fun _ => 0, fun _ => [], fun _ => [], 0⟩, 0⟩
theorem ints_is {K : KT} {G : Hp} : ∀ {ns : List Int} {xs : List V}, xs = ns.map V.int → IsL K G (ns.map D.int) xs
  | [], _, h => h
  | n :: ns, _, h => ⟨_, _, h, rfl, ints_is rfl⟩
theorem scr_conv {K1 K2 : KT} (e : K1.K = K2.K) {G : Hp} {ns : List Int} {vs : List V} (h : IsL K1 G [.scr (ns.map D.int)] vs) : IsL K2 G [.scr (ns.map D.int)] vs := by
  obtain ⟨v, rfl, a, xs, rfl, h1, h2⟩ := IsL.one_of h
  exact ⟨_, [], rfl, ⟨a, xs, rfl, e ▸ h1, ints_is (IsL.ints h2)⟩, rfl⟩
theorem FnG.law {Pg : Program} {w : World} {K1 K2 : KT} {K : PySem.W.Frag} {mg : Str → Option Value} {base : Heap} {ps : List Str} {k : Nat} {f : Addr} {fd : FuncData} (e : K1.K = K2.K) (F : FnG Pg w K mg base k f fd ps (spLaw K2)) : FnG Pg w K mg base k f fd ps (spLaw K1) := by
  have cv : ∀ {vs H Q E}, spLaw K1 vs H Q E → spLaw K2 vs H Q E := fun {vs H Q E} ⟨G, ns, o, i, hl, q⟩ => ⟨G, ns, o, scr_conv e i, hl, q⟩
  exact ⟨fun vs H Q E h => F.size vs H Q E (cv h), fun A outer s H args us vs Q E r gs en b v h => F.go A outer s H args us vs Q E r gs en b v (cv h)⟩
theorem walkK {l : PySem.W.OpenLaw} {n k : Nat} {q : Program} {loose : List Str} {XP : (Str → Option Value) → Heap → Prop} {YP : World → Heap → Prop} {d : DefRec} {K : Params → PySem.W.Frag} {x : Str}
    (hn : l.most = some n) (hn2 : n ≤ 63) (hdf : d.params.defaults = []) (hr : Room k callerA) (hY : ∀ (w : World) (h : Heap), YP w h → (K w.params).In h)
    (FG : ∀ (w : World) (mg : Str → Option Value) (fa : Addr) (h : Heap), (K w.params).In h → h.Ns mainGlobals mg → mg d.name = some (.ref fa) →
      ∃ fd : FuncData, (∀ (s : Shared) (u : Value), BindsTo s fd ⟨[u], []⟩ [(x, u)]) ∧ ∀ base : Heap, (K w.params).In base → base.Ns mainGlobals mg → FnG l.prog w (K w.params) mg base k fa fd [x] (spLaw (kt0 (K w.params)))) :
    PySem.W.WalkO q loose XP YP l.row.toRowW d [] (fun g xs => PySem.call g xs) := walkG (K := fun p => kt0 (K p)) hn hn2 hdf hr hY FG
end Ez
namespace Ez
open L2 PySem PyProof.Rows PySem.Spec
section
variable {K : PySem.W.Frag} {h : Heap} {mg : Str → Option Value} {Goal : Prop}
/-- rows of a nested constant -/
inductive Rows2 (K : PySem.W.Frag) : List (List V) → List Value → Prop
  | nil : Rows2 K [] []
  | cons {a : Addr} {od : Option Addr} {sl : Array (Option Value)} {its : List Value} {n : Nat} {xs : List V} {xss : List (List V)} {r : List Value} (l : K.lookup a = some ⟨.type "tuple", od, .seq its.toArray n, sl⟩) (v : Vals xs its) (hz : its.length ≤ 1000) (t : Rows2 K xss r) : Rows2 K (xs :: xss) (.ref a :: r)
theorem rows2_is {k : KT} (e : k.K = K) : ∀ {xss : List (List V)} {r : List Value}, Rows2 K xss r → xss.all (fun xs => xs.all scaV) = true → ∃ vs, Vals vs r ∧ ∀ G, IsL k G (xss.map fun xs => D.tup (xs.map dOf)) vs
  | _, _, .nil, _ => ⟨[], .nil, fun _ => rfl⟩
  | _, _, .cons (a := a) (its := its) (n := n) (xs := xs) l v hz t, h => by
    obtain ⟨h1, h2⟩ := Bool.and_eq_true_iff.mp (show (xs.all scaV && _) = true from h)
    obtain ⟨vs, b, c⟩ := rows2_is e t h2
    exact ⟨.ref a :: vs, .cons rfl b, fun G => ⟨_, _, rfl, ⟨a, xs, rfl, .inr ⟨_, its.toArray, n, by rw [e]; exact l, rfl, rfl, by rw [List.size_toArray]; exact Nat.le_trans hz (by decide), v⟩, isDef h1⟩, c G⟩⟩
theorem constKK_elim {x : Str} {a : Addr} {od : Option Addr} {sl : Array (Option Value)} {its : List Value} {n : Nat} {xss : List (List V)} (X : K.In h) (G : h.Ns mainGlobals mg)
    (c : PySem.W.nsIn K mainGlobals x = some (some (.ref a))) (l : K.lookup a = some ⟨.type "tuple", od, .seq its.toArray n, sl⟩) (r : Rows2 K xss its) (hs : xss.all (fun xs => xs.all scaV) = true) (hz : xss.length ≤ 1000)
    (go : ∀ a, mg x = some (.ref a) → (∀ k : KT, k.K = K → ∀ G, Is k G (.tup (xss.map fun xs => D.tup (xs.map dOf))) (.ref a)) → Goal) : Goal :=
  go a (PySem.W.mg_of X G c) fun k e G => by
    obtain ⟨vs, b, i⟩ := rows2_is e r hs
    refine ⟨a, vs, rfl, .inr ⟨_, its.toArray, n, by rw [e]; exact l, rfl, rfl, ?_, b⟩, i G⟩
    have := IsL.len (i G)
    rw [List.size_toArray, ← b.length, this, List.length_map]; exact Nat.le_trans hz (by decide)
end
end Ez
set_option Elab.async false
set_option linter.all false
set_option maxRecDepth 100000
set_option maxHeartbeats 3999999
namespace K02
open L2 PySem PyProof.Rows PySem.Spec Ez
def topS (i : Nat) : Stmt := PySem.Challenge.pw_tautparcel_k02_whole_boxes_faces_and_edg.main.body.getD i (.Pass ⟨0, 0, 0, 0⟩)
abbrev s_is_whole : Stmt := topS 8
abbrev s_is_sequence : Stmt := topS 9
abbrev s_check_face : Stmt := topS 14
abbrev s_check_corner : Stmt := topS 15
abbrev s_corner_bit : Stmt := topS 16
abbrev s_corner_numbers : Stmt := topS 17
abbrev s_face_axes : Stmt := topS 18
abbrev s_are_beside : Stmt := topS 19
abbrev s_faces_beside : Stmt := topS 20
abbrev s_faces_of_corner : Stmt := topS 21
abbrev s_all_edges : Stmt := topS 22
abbrev s_check_edge : Stmt := topS 23
abbrev s_faces_of_edge : Stmt := topS 24
abbrev s_edge_between : Stmt := topS 25
abbrev s_edge_ends : Stmt := topS 26
abbrev s__law_hand : Stmt := topS 28
abbrev s__law_mixed : Stmt := topS 29
abbrev s__law_take : Stmt := topS 30
abbrev s__law_axes : Stmt := topS 31
abbrev s__law_tuples : Stmt := topS 32
abbrev s__law_odd : Stmt := topS 33
abbrev s__law_rid : Stmt := topS 34
abbrev s__law_whole : Stmt := topS 35
abbrev s__law_bits : Stmt := topS 36
abbrev s__law_shaped : Stmt := topS 37
abbrev s__law_box : Stmt := topS 38
abbrev s__law_asked : Stmt := topS 39
abbrev s__law_between : Stmt := topS 40
abbrev s__law_plain : Stmt := topS 41
abbrev s__law_like : Stmt := topS 42
abbrev s__law_faces : Stmt := topS 43
abbrev s__law_edges : Stmt := topS 44
abbrev s__law_spoilt : Stmt := topS 45
abbrev s_law : Stmt := topS 46
abbrev s_BadBox___init__ : Stmt := inClass (topS 2) 0
abbrev s_BadCorner___init__ : Stmt := inClass (topS 3) 0
abbrev s_BadEdge___init__ : Stmt := inClass (topS 5) 0
abbrev s_BadFace___init__ : Stmt := inClass (topS 4) 0
abbrev s_NoEdge___init__ : Stmt := inClass (topS 6) 0
abbrev s_Box___init__ : Stmt := inClass (topS 13) 0
abbrev s_Box___eq__ : Stmt := inClass (topS 13) 1
abbrev s_Box_skin_area : Stmt := inClass (topS 13) 2
abbrev s_Box_corner_places : Stmt := inClass (topS 13) 3
theorem sc_is_whole : FnScope ["thing", "low", "high"] ["thing", "low", "high"] (defScope s_is_whole) := ⟨rfl, rfl, rfl, by decide +kernel, rfl, by decide +kernel, by decide +kernel⟩
theorem sc_is_sequence : FnScope ["thing", "low", "high"] ["thing", "low", "high"] (defScope s_is_sequence) := ⟨rfl, rfl, rfl, by decide +kernel, rfl, by decide +kernel, by decide +kernel⟩
theorem sc_check_face : FnScope ["face"] ["face"] (defScope s_check_face) := ⟨rfl, rfl, rfl, by decide +kernel, rfl, by decide +kernel, by decide +kernel⟩
theorem sc_check_corner : FnScope ["corner"] ["corner"] (defScope s_check_corner) := ⟨rfl, rfl, rfl, by decide +kernel, rfl, by decide +kernel, by decide +kernel⟩
theorem sc_corner_bit : FnScope ["corner", "axis"] ["corner", "axis"] (defScope s_corner_bit) := ⟨rfl, rfl, rfl, by decide +kernel, rfl, by decide +kernel, by decide +kernel⟩
theorem sc_corner_numbers : FnScope ["box", "corner", "axis", "side"] ["box", "corner"] (defScope s_corner_numbers) := ⟨rfl, rfl, rfl, by decide +kernel, rfl, by decide +kernel, by decide +kernel⟩
theorem sc_face_axes : FnScope ["face"] ["face"] (defScope s_face_axes) := ⟨rfl, rfl, rfl, by decide +kernel, rfl, by decide +kernel, by decide +kernel⟩
theorem sc_are_beside : FnScope ["face", "other"] ["face", "other"] (defScope s_are_beside) := ⟨rfl, rfl, rfl, by decide +kernel, rfl, by decide +kernel, by decide +kernel⟩
theorem sc_faces_beside : FnScope ["face", "other"] ["face"] (defScope s_faces_beside) := ⟨rfl, rfl, rfl, by decide +kernel, rfl, by decide +kernel, by decide +kernel⟩
theorem sc_faces_of_corner : FnScope ["corner", "axis"] ["corner"] (defScope s_faces_of_corner) := ⟨rfl, rfl, rfl, by decide +kernel, rfl, by decide +kernel, by decide +kernel⟩
theorem sc_all_edges : FnScope ["low", "high"] [] (defScope s_all_edges) := ⟨rfl, rfl, rfl, by decide +kernel, rfl, by decide +kernel, by decide +kernel⟩
theorem sc_check_edge : FnScope ["edge", "low", "high"] ["edge"] (defScope s_check_edge) := ⟨rfl, rfl, rfl, by decide +kernel, rfl, by decide +kernel, by decide +kernel⟩
theorem sc_faces_of_edge : FnScope ["edge", "low", "high", "face"] ["edge"] (defScope s_faces_of_edge) := ⟨rfl, rfl, rfl, by decide +kernel, rfl, by decide +kernel, by decide +kernel⟩
theorem sc_edge_between : FnScope ["face", "beside", "right", "left"] ["face", "beside"] (defScope s_edge_between) := ⟨rfl, rfl, rfl, by decide +kernel, rfl, by decide +kernel, by decide +kernel⟩
theorem sc_edge_ends : FnScope ["face", "beside", "first", "second", "along", "base", "near", "far"] ["face", "beside"] (defScope s_edge_ends) := ⟨rfl, rfl, rfl, by decide +kernel, rfl, by decide +kernel, by decide +kernel⟩
theorem sc__law_hand : FnScope ["_law_script", "_law_total", "_law_cells", "_law_cell"] ["_law_script"] (defScope s__law_hand) := ⟨rfl, rfl, rfl, by decide +kernel, rfl, by decide +kernel, by decide +kernel⟩
theorem sc__law_mixed : FnScope ["_law_number", "_law_turn", "_law_once", "_law_twice"] ["_law_number", "_law_turn"] (defScope s__law_mixed) := ⟨rfl, rfl, rfl, by decide +kernel, rfl, by decide +kernel, by decide +kernel⟩
theorem sc__law_take : FnScope ["_law_hand_here", "_law_many", "_law_cell", "_law_rest"] ["_law_hand_here", "_law_many"] (defScope s__law_take) := ⟨rfl, rfl, rfl, by decide +kernel, rfl, by decide +kernel, by decide +kernel⟩
theorem sc__law_axes : FnScope ["_law_face"] ["_law_face"] (defScope s__law_axes) := ⟨rfl, rfl, rfl, by decide +kernel, rfl, by decide +kernel, by decide +kernel⟩
theorem sc__law_tuples : FnScope ["_law_thing", "_law_item"] ["_law_thing"] (defScope s__law_tuples) := ⟨rfl, rfl, rfl, by decide +kernel, rfl, by decide +kernel, by decide +kernel⟩
theorem sc__law_odd : FnScope ["_law_hand_here", "_law_high"] ["_law_hand_here", "_law_high"] (defScope s__law_odd) := ⟨rfl, rfl, rfl, by decide +kernel, rfl, by decide +kernel, by decide +kernel⟩
theorem sc__law_rid : FnScope ["_law_hand_here"] ["_law_hand_here"] (defScope s__law_rid) := ⟨rfl, rfl, rfl, by decide +kernel, rfl, by decide +kernel, by decide +kernel⟩
theorem sc__law_whole : FnScope ["_law_thing", "_law_low", "_law_high"] ["_law_thing", "_law_low", "_law_high"] (defScope s__law_whole) := ⟨rfl, rfl, rfl, by decide +kernel, rfl, by decide +kernel, by decide +kernel⟩
theorem sc__law_bits : FnScope ["_law_corner"] ["_law_corner"] (defScope s__law_bits) := ⟨rfl, rfl, rfl, by decide +kernel, rfl, by decide +kernel, by decide +kernel⟩
theorem sc__law_shaped : FnScope ["_law_hand_here", "_law_items"] ["_law_hand_here", "_law_items"] (defScope s__law_shaped) := ⟨rfl, rfl, rfl, by decide +kernel, rfl, by decide +kernel, by decide +kernel⟩
theorem sc__law_box : FnScope ["_law_sides", "_law_found", "raised"] ["_law_sides"] (defScope s__law_box) := ⟨rfl, rfl, rfl, by decide +kernel, rfl, by decide +kernel, by decide +kernel⟩
theorem sc__law_asked : FnScope ["_law_deed", "_law_thing", "_law_found", "raised"] ["_law_deed", "_law_thing"] (defScope s__law_asked) := ⟨rfl, rfl, rfl, by decide +kernel, rfl, by decide +kernel, by decide +kernel⟩
theorem sc__law_between : FnScope ["_law_deed", "_law_one", "_law_other", "_law_found", "raised"] ["_law_deed", "_law_one", "_law_other"] (defScope s__law_between) := ⟨rfl, rfl, rfl, by decide +kernel, rfl, by decide +kernel, by decide +kernel⟩
theorem sc__law_plain : FnScope ["_law_thing", "_law_item"] ["_law_thing"] (defScope s__law_plain) := ⟨rfl, rfl, rfl, by decide +kernel, rfl, by decide +kernel, by decide +kernel⟩
theorem sc__law_like : FnScope ["_law_one", "_law_other"] ["_law_one", "_law_other"] (defScope s__law_like) := ⟨rfl, rfl, rfl, by decide +kernel, rfl, by decide +kernel, by decide +kernel⟩
theorem sc__law_faces : FnScope ["_law_hand_here", "_law_face", "_law_near", "_law_other", "_law_due", "_law_k", "_law_odd_here", "_law_deed", "_law_good"] ["_law_hand_here"] (defScope s__law_faces) := ⟨rfl, rfl, rfl, by decide +kernel, rfl, by decide +kernel, by decide +kernel⟩
theorem sc__law_edges : FnScope ["_law_hand_here", "_law_due", "_law_one", "_law_other", "_law_k", "_law_edge", "_law_corner", "_law_bits_here", "_law_couple", "_law_fits", "_law_good", "_law_found", "_law_odd_here"] ["_law_hand_here"] (defScope s__law_edges) := ⟨rfl, rfl, rfl, by decide +kernel, rfl, by decide +kernel, by decide +kernel⟩
theorem sc__law_spoilt : FnScope ["_law_hand_here", "_law_sides", "_law_kind", "_law_rows", "_law_turn", "_law_k"] ["_law_hand_here", "_law_sides"] (defScope s__law_spoilt) := ⟨rfl, rfl, rfl, by decide +kernel, rfl, by decide +kernel, by decide +kernel⟩
theorem sc_law : FnScope ["_law_script", "_law_hand_here", "_law_sides", "_law_axis", "_law_given", "_law_box_here", "_law_a", "_law_b", "_law_c", "_law_places", "_law_corner", "_law_bits_here", "_law_other", "_law_side", "_law_rows", "_law_index", "_law_found"] ["_law_script"] (defScope s_law) := ⟨rfl, rfl, rfl, by decide +kernel, rfl, by decide +kernel, by decide +kernel⟩
theorem sc_Box___init__ : FnScope ["self", "sides", "index", "side"] ["self", "sides"] (defScope s_Box___init__) := ⟨rfl, rfl, rfl, by decide +kernel, rfl, by decide +kernel, by decide +kernel⟩
theorem sc_Box___eq__ : FnScope ["self", "other"] ["self", "other"] (defScope s_Box___eq__) := ⟨rfl, rfl, rfl, by decide +kernel, rfl, by decide +kernel, by decide +kernel⟩
theorem sc_Box_skin_area : FnScope ["self", "first", "second", "third"] ["self"] (defScope s_Box_skin_area) := ⟨rfl, rfl, rfl, by decide +kernel, rfl, by decide +kernel, by decide +kernel⟩
theorem sc_Box_corner_places : FnScope ["self", "places", "corner", "number", "place"] ["self"] (defScope s_Box_corner_places) := ⟨rfl, rfl, rfl, by decide +kernel, rfl, by decide +kernel, by decide +kernel⟩
theorem sc_BadBox___init__ : FnScope ["self", "index"] ["self", "index"] (defScope s_BadBox___init__) := ⟨rfl, rfl, rfl, by decide +kernel, rfl, by decide +kernel, by decide +kernel⟩
theorem sc_BadCorner___init__ : FnScope ["self", "corner"] ["self", "corner"] (defScope s_BadCorner___init__) := ⟨rfl, rfl, rfl, by decide +kernel, rfl, by decide +kernel, by decide +kernel⟩
theorem sc_BadEdge___init__ : FnScope ["self", "edge"] ["self", "edge"] (defScope s_BadEdge___init__) := ⟨rfl, rfl, rfl, by decide +kernel, rfl, by decide +kernel, by decide +kernel⟩
theorem sc_BadFace___init__ : FnScope ["self", "face"] ["self", "face"] (defScope s_BadFace___init__) := ⟨rfl, rfl, rfl, by decide +kernel, rfl, by decide +kernel, by decide +kernel⟩
theorem sc_NoEdge___init__ : FnScope ["self", "face", "beside"] ["self", "face", "beside"] (defScope s_NoEdge___init__) := ⟨rfl, rfl, rfl, by decide +kernel, rfl, by decide +kernel, by decide +kernel⟩
structure Ad where
  LONGEST_SIDE : Addr
  FACE_AXES : Addr
  ParcelError : Addr
  BadBox : Addr
  BadCorner : Addr
  BadFace : Addr
  BadEdge : Addr
  NoEdge : Addr
  Box : Addr
  BadBox___init__ : Addr
  fd_BadBox___init__ : FuncData
  BadCorner___init__ : Addr
  fd_BadCorner___init__ : FuncData
  BadEdge___init__ : Addr
  fd_BadEdge___init__ : FuncData
  BadFace___init__ : Addr
  fd_BadFace___init__ : FuncData
  NoEdge___init__ : Addr
  fd_NoEdge___init__ : FuncData
  f_is_whole : Addr
  fd_is_whole : FuncData
  f_is_sequence : Addr
  fd_is_sequence : FuncData
  f_check_face : Addr
  fd_check_face : FuncData
  f_check_corner : Addr
  fd_check_corner : FuncData
  f_corner_bit : Addr
  fd_corner_bit : FuncData
  f_corner_numbers : Addr
  fd_corner_numbers : FuncData
  f_face_axes : Addr
  fd_face_axes : FuncData
  f_are_beside : Addr
  fd_are_beside : FuncData
  f_faces_beside : Addr
  fd_faces_beside : FuncData
  f_faces_of_corner : Addr
  fd_faces_of_corner : FuncData
  f_all_edges : Addr
  fd_all_edges : FuncData
  f_check_edge : Addr
  fd_check_edge : FuncData
  f_faces_of_edge : Addr
  fd_faces_of_edge : FuncData
  f_edge_between : Addr
  fd_edge_between : FuncData
  f_edge_ends : Addr
  fd_edge_ends : FuncData
  f__law_hand : Addr
  fd__law_hand : FuncData
  f__law_mixed : Addr
  fd__law_mixed : FuncData
  f__law_take : Addr
  fd__law_take : FuncData
  f__law_axes : Addr
  fd__law_axes : FuncData
  f__law_tuples : Addr
  fd__law_tuples : FuncData
  f__law_odd : Addr
  fd__law_odd : FuncData
  f__law_rid : Addr
  fd__law_rid : FuncData
  f__law_whole : Addr
  fd__law_whole : FuncData
  f__law_bits : Addr
  fd__law_bits : FuncData
  f__law_shaped : Addr
  fd__law_shaped : FuncData
  f__law_box : Addr
  fd__law_box : FuncData
  f__law_asked : Addr
  fd__law_asked : FuncData
  f__law_between : Addr
  fd__law_between : FuncData
  f__law_plain : Addr
  fd__law_plain : FuncData
  f__law_like : Addr
  fd__law_like : FuncData
  f__law_faces : Addr
  fd__law_faces : FuncData
  f__law_edges : Addr
  fd__law_edges : FuncData
  f__law_spoilt : Addr
  fd__law_spoilt : FuncData
  f_law : Addr
  fd_law : FuncData
  f_Box___init__ : Addr
  fd_Box___init__ : FuncData
  f_Box___eq__ : Addr
  fd_Box___eq__ : FuncData
  f_Box_skin_area : Addr
  fd_Box_skin_area : FuncData
  f_Box_corner_places : Addr
  fd_Box_corner_places : FuncData
  p_Box_skin_area : Addr
  p_Box_corner_places : Addr
def kt (K : PySem.W.Frag) (ad : Ad) : KB := ⟨K, fun c => [ad.ParcelError, ad.BadBox, ad.BadCorner, ad.BadFace, ad.BadEdge, ad.NoEdge, ad.Box].getD c 0, fun f => [ad.f_is_whole, ad.f_is_sequence, ad.f_check_face, ad.f_check_corner, ad.f_corner_bit, ad.f_corner_numbers, ad.f_face_axes, ad.f_are_beside, ad.f_faces_beside, ad.f_faces_of_corner, ad.f_all_edges, ad.f_check_edge, ad.f_faces_of_edge, ad.f_edge_between, ad.f_edge_ends, ad.f__law_hand, ad.f__law_mixed, ad.f__law_take, ad.f__law_axes, ad.f__law_tuples, ad.f__law_odd, ad.f__law_rid, ad.f__law_whole, ad.f__law_bits, ad.f__law_shaped, ad.f__law_box, ad.f__law_asked, ad.f__law_between, ad.f__law_plain, ad.f__law_like, ad.f__law_faces, ad.f__law_edges, ad.f__law_spoilt, ad.f_law].getD f 0, tx.fld, tx.xf, 0⟩
def con (ad : Ad) (k : Nat) : Addr := [ad.FACE_AXES].getD k 0
structure Txt (K : PySem.W.Frag) (mg : Str → Option Value) (ad : Ad) : Prop where
  b_tuple : mg "tuple" = none
  b_isinstance : mg "isinstance" = none
  b_range : mg "range" = none
  b_list : mg "list" = none
  b_bool : mg "bool" = none
  b_enumerate : mg "enumerate" = none
  b_min : mg "min" = none
  b_max : mg "max" = none
  b_int : mg "int" = none
  b_len : mg "len" = none
  b_abs : mg "abs" = none
  b_repr : mg "repr" = none
  b_sorted : mg "sorted" = none
  b_sum : mg "sum" = none
  m_LONGEST_SIDE : ∃ t, mg "LONGEST_SIDE" = some (.int 60 t)
  m_FACE_AXES : mg "FACE_AXES" = some (.ref ad.FACE_AXES)
  i_FACE_AXES : ∀ p G, Is (kp (kt K ad) p) G (.tup [(.tup [(.int 2), (.int 1)]), (.tup [(.int 1), (.int 2)]), (.tup [(.int 0), (.int 2)]), (.tup [(.int 2), (.int 0)]), (.tup [(.int 1), (.int 0)]), (.tup [(.int 0), (.int 1)])]) (.ref ad.FACE_AXES)
  m_ParcelError : mg "ParcelError" = some (.ref ad.ParcelError)
  m_BadBox : mg "BadBox" = some (.ref ad.BadBox)
  m_BadCorner : mg "BadCorner" = some (.ref ad.BadCorner)
  m_BadFace : mg "BadFace" = some (.ref ad.BadFace)
  m_BadEdge : mg "BadEdge" = some (.ref ad.BadEdge)
  m_NoEdge : mg "NoEdge" = some (.ref ad.NoEdge)
  m_Box : mg "Box" = some (.ref ad.Box)
  o_BadBox : OexC K ad.BadBox
  i_BadBox : PySem.W.findIn K (.ref ad.BadBox) "__init__" = some (some (.ref ad.BadBox___init__))
  t_BadBox : PySem.W.typeIn K (.ref ad.BadBox___init__) = some (.type "function")
  F_BadBox___init__ : Fun K "__init__" "BadBox.__init__" s_BadBox___init__ ad.BadBox___init__ ad.fd_BadBox___init__
  bi_BadBox : L2.Binds K ad.fd_BadBox___init__ ["self", "index"] []
  x_BadBox : XfC K ad.BadBox
  xn_BadBox_index : PySem.W.findIn K (.ref ad.BadBox) "index" = some none
  o_BadCorner : OexC K ad.BadCorner
  i_BadCorner : PySem.W.findIn K (.ref ad.BadCorner) "__init__" = some (some (.ref ad.BadCorner___init__))
  t_BadCorner : PySem.W.typeIn K (.ref ad.BadCorner___init__) = some (.type "function")
  F_BadCorner___init__ : Fun K "__init__" "BadCorner.__init__" s_BadCorner___init__ ad.BadCorner___init__ ad.fd_BadCorner___init__
  bi_BadCorner : L2.Binds K ad.fd_BadCorner___init__ ["self", "corner"] []
  x_BadCorner : XfC K ad.BadCorner
  xn_BadCorner_corner : PySem.W.findIn K (.ref ad.BadCorner) "corner" = some none
  o_BadEdge : OexC K ad.BadEdge
  i_BadEdge : PySem.W.findIn K (.ref ad.BadEdge) "__init__" = some (some (.ref ad.BadEdge___init__))
  t_BadEdge : PySem.W.typeIn K (.ref ad.BadEdge___init__) = some (.type "function")
  F_BadEdge___init__ : Fun K "__init__" "BadEdge.__init__" s_BadEdge___init__ ad.BadEdge___init__ ad.fd_BadEdge___init__
  bi_BadEdge : L2.Binds K ad.fd_BadEdge___init__ ["self", "edge"] []
  x_BadEdge : XfC K ad.BadEdge
  xn_BadEdge_edge : PySem.W.findIn K (.ref ad.BadEdge) "edge" = some none
  o_BadFace : OexC K ad.BadFace
  i_BadFace : PySem.W.findIn K (.ref ad.BadFace) "__init__" = some (some (.ref ad.BadFace___init__))
  t_BadFace : PySem.W.typeIn K (.ref ad.BadFace___init__) = some (.type "function")
  F_BadFace___init__ : Fun K "__init__" "BadFace.__init__" s_BadFace___init__ ad.BadFace___init__ ad.fd_BadFace___init__
  bi_BadFace : L2.Binds K ad.fd_BadFace___init__ ["self", "face"] []
  x_BadFace : XfC K ad.BadFace
  xn_BadFace_face : PySem.W.findIn K (.ref ad.BadFace) "face" = some none
  o_NoEdge : OexC K ad.NoEdge
  i_NoEdge : PySem.W.findIn K (.ref ad.NoEdge) "__init__" = some (some (.ref ad.NoEdge___init__))
  t_NoEdge : PySem.W.typeIn K (.ref ad.NoEdge___init__) = some (.type "function")
  F_NoEdge___init__ : Fun K "__init__" "NoEdge.__init__" s_NoEdge___init__ ad.NoEdge___init__ ad.fd_NoEdge___init__
  bi_NoEdge : L2.Binds K ad.fd_NoEdge___init__ ["self", "face", "beside"] []
  x_NoEdge : XfC K ad.NoEdge
  xn_NoEdge_face : PySem.W.findIn K (.ref ad.NoEdge) "face" = some none
  xn_NoEdge_beside : PySem.W.findIn K (.ref ad.NoEdge) "beside" = some none
  oe_Box : OwnT K ad.Box ad.f_Box___eq__
  F_Box___eq__ : Fun K "__eq__" "Box.__eq__" s_Box___eq__ ad.f_Box___eq__ ad.fd_Box___eq__
  b_Box___eq__ : L2.Binds K ad.fd_Box___eq__ ["self", "other"] []
  pr_Box_skin_area : PropOf K ad.Box "skin_area" ad.p_Box_skin_area ad.f_Box_skin_area
  F_Box_skin_area : Fun K "skin_area" "Box.skin_area" s_Box_skin_area ad.f_Box_skin_area ad.fd_Box_skin_area
  b_Box_skin_area : L2.Binds K ad.fd_Box_skin_area ["self"] []
  pr_Box_corner_places : PropOf K ad.Box "corner_places" ad.p_Box_corner_places ad.f_Box_corner_places
  F_Box_corner_places : Fun K "corner_places" "Box.corner_places" s_Box_corner_places ad.f_Box_corner_places ad.fd_Box_corner_places
  b_Box_corner_places : L2.Binds K ad.fd_Box_corner_places ["self"] []
  mk_Box : Mk K ad.Box ad.f_Box___init__
  cl_Box : Cls K ad.Box
  na_Box_sides : NoAttr K ad.Box "sides"
  F_Box___init__ : Fun K "__init__" "Box.__init__" s_Box___init__ ad.f_Box___init__ ad.fd_Box___init__
  b_Box___init__ : L2.Binds K ad.fd_Box___init__ ["self", "sides"] []
  it_Box : InsT K ad.Box
  in_Box : ∀ n ∈ tyns, PySem.W.kitOne K (.type n) (.ref ad.Box) = some false
  io_Box_Box : PySem.W.kitOne K (.ref ad.Box) (.ref ad.Box) = some true
  e_BadBox_BadBox : PySem.W.exmOne K (.ref ad.BadBox) (.ref ad.BadBox) = some true
  e_BadBox_BadCorner : PySem.W.exmOne K (.ref ad.BadBox) (.ref ad.BadCorner) = some false
  e_BadBox_BadEdge : PySem.W.exmOne K (.ref ad.BadBox) (.ref ad.BadEdge) = some false
  e_BadBox_BadFace : PySem.W.exmOne K (.ref ad.BadBox) (.ref ad.BadFace) = some false
  e_BadBox_NoEdge : PySem.W.exmOne K (.ref ad.BadBox) (.ref ad.NoEdge) = some false
  e_BadBox_ParcelError : PySem.W.exmOne K (.ref ad.BadBox) (.ref ad.ParcelError) = some true
  e_BadCorner_BadBox : PySem.W.exmOne K (.ref ad.BadCorner) (.ref ad.BadBox) = some false
  e_BadCorner_BadCorner : PySem.W.exmOne K (.ref ad.BadCorner) (.ref ad.BadCorner) = some true
  e_BadCorner_BadEdge : PySem.W.exmOne K (.ref ad.BadCorner) (.ref ad.BadEdge) = some false
  e_BadCorner_BadFace : PySem.W.exmOne K (.ref ad.BadCorner) (.ref ad.BadFace) = some false
  e_BadCorner_NoEdge : PySem.W.exmOne K (.ref ad.BadCorner) (.ref ad.NoEdge) = some false
  e_BadCorner_ParcelError : PySem.W.exmOne K (.ref ad.BadCorner) (.ref ad.ParcelError) = some true
  e_BadEdge_BadBox : PySem.W.exmOne K (.ref ad.BadEdge) (.ref ad.BadBox) = some false
  e_BadEdge_BadCorner : PySem.W.exmOne K (.ref ad.BadEdge) (.ref ad.BadCorner) = some false
  e_BadEdge_BadEdge : PySem.W.exmOne K (.ref ad.BadEdge) (.ref ad.BadEdge) = some true
  e_BadEdge_BadFace : PySem.W.exmOne K (.ref ad.BadEdge) (.ref ad.BadFace) = some false
  e_BadEdge_NoEdge : PySem.W.exmOne K (.ref ad.BadEdge) (.ref ad.NoEdge) = some false
  e_BadEdge_ParcelError : PySem.W.exmOne K (.ref ad.BadEdge) (.ref ad.ParcelError) = some true
  e_BadFace_BadBox : PySem.W.exmOne K (.ref ad.BadFace) (.ref ad.BadBox) = some false
  e_BadFace_BadCorner : PySem.W.exmOne K (.ref ad.BadFace) (.ref ad.BadCorner) = some false
  e_BadFace_BadEdge : PySem.W.exmOne K (.ref ad.BadFace) (.ref ad.BadEdge) = some false
  e_BadFace_BadFace : PySem.W.exmOne K (.ref ad.BadFace) (.ref ad.BadFace) = some true
  e_BadFace_NoEdge : PySem.W.exmOne K (.ref ad.BadFace) (.ref ad.NoEdge) = some false
  e_BadFace_ParcelError : PySem.W.exmOne K (.ref ad.BadFace) (.ref ad.ParcelError) = some true
  e_NoEdge_BadBox : PySem.W.exmOne K (.ref ad.NoEdge) (.ref ad.BadBox) = some false
  e_NoEdge_BadCorner : PySem.W.exmOne K (.ref ad.NoEdge) (.ref ad.BadCorner) = some false
  e_NoEdge_BadEdge : PySem.W.exmOne K (.ref ad.NoEdge) (.ref ad.BadEdge) = some false
  e_NoEdge_BadFace : PySem.W.exmOne K (.ref ad.NoEdge) (.ref ad.BadFace) = some false
  e_NoEdge_NoEdge : PySem.W.exmOne K (.ref ad.NoEdge) (.ref ad.NoEdge) = some true
  e_NoEdge_ParcelError : PySem.W.exmOne K (.ref ad.NoEdge) (.ref ad.ParcelError) = some true
  m_is_whole : mg "is_whole" = some (.ref ad.f_is_whole)
  k_is_whole : PySem.W.keepIn K (.ref ad.f_is_whole) = true
  F_is_whole : FunD K "is_whole" "is_whole" (defArgs s_is_whole) (defBody s_is_whole) (defScope s_is_whole) [.non, .non] [] ad.f_is_whole ad.fd_is_whole
  m_is_sequence : mg "is_sequence" = some (.ref ad.f_is_sequence)
  k_is_sequence : PySem.W.keepIn K (.ref ad.f_is_sequence) = true
  F_is_sequence : Fun K "is_sequence" "is_sequence" s_is_sequence ad.f_is_sequence ad.fd_is_sequence
  b_is_sequence : L2.Binds K ad.fd_is_sequence ["thing", "low", "high"] []
  m_check_face : mg "check_face" = some (.ref ad.f_check_face)
  k_check_face : PySem.W.keepIn K (.ref ad.f_check_face) = true
  F_check_face : Fun K "check_face" "check_face" s_check_face ad.f_check_face ad.fd_check_face
  b_check_face : L2.Binds K ad.fd_check_face ["face"] []
  m_check_corner : mg "check_corner" = some (.ref ad.f_check_corner)
  k_check_corner : PySem.W.keepIn K (.ref ad.f_check_corner) = true
  F_check_corner : Fun K "check_corner" "check_corner" s_check_corner ad.f_check_corner ad.fd_check_corner
  b_check_corner : L2.Binds K ad.fd_check_corner ["corner"] []
  m_corner_bit : mg "corner_bit" = some (.ref ad.f_corner_bit)
  k_corner_bit : PySem.W.keepIn K (.ref ad.f_corner_bit) = true
  F_corner_bit : Fun K "corner_bit" "corner_bit" s_corner_bit ad.f_corner_bit ad.fd_corner_bit
  b_corner_bit : L2.Binds K ad.fd_corner_bit ["corner", "axis"] []
  m_corner_numbers : mg "corner_numbers" = some (.ref ad.f_corner_numbers)
  k_corner_numbers : PySem.W.keepIn K (.ref ad.f_corner_numbers) = true
  F_corner_numbers : Fun K "corner_numbers" "corner_numbers" s_corner_numbers ad.f_corner_numbers ad.fd_corner_numbers
  b_corner_numbers : L2.Binds K ad.fd_corner_numbers ["box", "corner"] []
  m_face_axes : mg "face_axes" = some (.ref ad.f_face_axes)
  k_face_axes : PySem.W.keepIn K (.ref ad.f_face_axes) = true
  F_face_axes : Fun K "face_axes" "face_axes" s_face_axes ad.f_face_axes ad.fd_face_axes
  b_face_axes : L2.Binds K ad.fd_face_axes ["face"] []
  m_are_beside : mg "are_beside" = some (.ref ad.f_are_beside)
  k_are_beside : PySem.W.keepIn K (.ref ad.f_are_beside) = true
  F_are_beside : Fun K "are_beside" "are_beside" s_are_beside ad.f_are_beside ad.fd_are_beside
  b_are_beside : L2.Binds K ad.fd_are_beside ["face", "other"] []
  m_faces_beside : mg "faces_beside" = some (.ref ad.f_faces_beside)
  k_faces_beside : PySem.W.keepIn K (.ref ad.f_faces_beside) = true
  F_faces_beside : Fun K "faces_beside" "faces_beside" s_faces_beside ad.f_faces_beside ad.fd_faces_beside
  b_faces_beside : L2.Binds K ad.fd_faces_beside ["face"] []
  m_faces_of_corner : mg "faces_of_corner" = some (.ref ad.f_faces_of_corner)
  k_faces_of_corner : PySem.W.keepIn K (.ref ad.f_faces_of_corner) = true
  F_faces_of_corner : Fun K "faces_of_corner" "faces_of_corner" s_faces_of_corner ad.f_faces_of_corner ad.fd_faces_of_corner
  b_faces_of_corner : L2.Binds K ad.fd_faces_of_corner ["corner"] []
  m_all_edges : mg "all_edges" = some (.ref ad.f_all_edges)
  k_all_edges : PySem.W.keepIn K (.ref ad.f_all_edges) = true
  F_all_edges : Fun K "all_edges" "all_edges" s_all_edges ad.f_all_edges ad.fd_all_edges
  b_all_edges : L2.Binds K ad.fd_all_edges [] []
  m_check_edge : mg "check_edge" = some (.ref ad.f_check_edge)
  k_check_edge : PySem.W.keepIn K (.ref ad.f_check_edge) = true
  F_check_edge : Fun K "check_edge" "check_edge" s_check_edge ad.f_check_edge ad.fd_check_edge
  b_check_edge : L2.Binds K ad.fd_check_edge ["edge"] []
  m_faces_of_edge : mg "faces_of_edge" = some (.ref ad.f_faces_of_edge)
  k_faces_of_edge : PySem.W.keepIn K (.ref ad.f_faces_of_edge) = true
  F_faces_of_edge : Fun K "faces_of_edge" "faces_of_edge" s_faces_of_edge ad.f_faces_of_edge ad.fd_faces_of_edge
  b_faces_of_edge : L2.Binds K ad.fd_faces_of_edge ["edge"] []
  m_edge_between : mg "edge_between" = some (.ref ad.f_edge_between)
  k_edge_between : PySem.W.keepIn K (.ref ad.f_edge_between) = true
  F_edge_between : Fun K "edge_between" "edge_between" s_edge_between ad.f_edge_between ad.fd_edge_between
  b_edge_between : L2.Binds K ad.fd_edge_between ["face", "beside"] []
  m_edge_ends : mg "edge_ends" = some (.ref ad.f_edge_ends)
  k_edge_ends : PySem.W.keepIn K (.ref ad.f_edge_ends) = true
  F_edge_ends : Fun K "edge_ends" "edge_ends" s_edge_ends ad.f_edge_ends ad.fd_edge_ends
  b_edge_ends : L2.Binds K ad.fd_edge_ends ["face", "beside"] []
  m__law_hand : mg "_law_hand" = some (.ref ad.f__law_hand)
  k__law_hand : PySem.W.keepIn K (.ref ad.f__law_hand) = true
  F__law_hand : Fun K "_law_hand" "_law_hand" s__law_hand ad.f__law_hand ad.fd__law_hand
  b__law_hand : L2.Binds K ad.fd__law_hand ["_law_script"] []
  m__law_mixed : mg "_law_mixed" = some (.ref ad.f__law_mixed)
  k__law_mixed : PySem.W.keepIn K (.ref ad.f__law_mixed) = true
  F__law_mixed : Fun K "_law_mixed" "_law_mixed" s__law_mixed ad.f__law_mixed ad.fd__law_mixed
  b__law_mixed : L2.Binds K ad.fd__law_mixed ["_law_number", "_law_turn"] []
  m__law_take : mg "_law_take" = some (.ref ad.f__law_take)
  k__law_take : PySem.W.keepIn K (.ref ad.f__law_take) = true
  F__law_take : Fun K "_law_take" "_law_take" s__law_take ad.f__law_take ad.fd__law_take
  b__law_take : L2.Binds K ad.fd__law_take ["_law_hand_here", "_law_many"] []
  m__law_axes : mg "_law_axes" = some (.ref ad.f__law_axes)
  k__law_axes : PySem.W.keepIn K (.ref ad.f__law_axes) = true
  F__law_axes : Fun K "_law_axes" "_law_axes" s__law_axes ad.f__law_axes ad.fd__law_axes
  b__law_axes : L2.Binds K ad.fd__law_axes ["_law_face"] []
  m__law_tuples : mg "_law_tuples" = some (.ref ad.f__law_tuples)
  k__law_tuples : PySem.W.keepIn K (.ref ad.f__law_tuples) = true
  F__law_tuples : Fun K "_law_tuples" "_law_tuples" s__law_tuples ad.f__law_tuples ad.fd__law_tuples
  b__law_tuples : L2.Binds K ad.fd__law_tuples ["_law_thing"] []
  m__law_odd : mg "_law_odd" = some (.ref ad.f__law_odd)
  k__law_odd : PySem.W.keepIn K (.ref ad.f__law_odd) = true
  F__law_odd : Fun K "_law_odd" "_law_odd" s__law_odd ad.f__law_odd ad.fd__law_odd
  b__law_odd : L2.Binds K ad.fd__law_odd ["_law_hand_here", "_law_high"] []
  m__law_rid : mg "_law_rid" = some (.ref ad.f__law_rid)
  k__law_rid : PySem.W.keepIn K (.ref ad.f__law_rid) = true
  F__law_rid : Fun K "_law_rid" "_law_rid" s__law_rid ad.f__law_rid ad.fd__law_rid
  b__law_rid : L2.Binds K ad.fd__law_rid ["_law_hand_here"] []
  m__law_whole : mg "_law_whole" = some (.ref ad.f__law_whole)
  k__law_whole : PySem.W.keepIn K (.ref ad.f__law_whole) = true
  F__law_whole : Fun K "_law_whole" "_law_whole" s__law_whole ad.f__law_whole ad.fd__law_whole
  b__law_whole : L2.Binds K ad.fd__law_whole ["_law_thing", "_law_low", "_law_high"] []
  m__law_bits : mg "_law_bits" = some (.ref ad.f__law_bits)
  k__law_bits : PySem.W.keepIn K (.ref ad.f__law_bits) = true
  F__law_bits : Fun K "_law_bits" "_law_bits" s__law_bits ad.f__law_bits ad.fd__law_bits
  b__law_bits : L2.Binds K ad.fd__law_bits ["_law_corner"] []
  m__law_shaped : mg "_law_shaped" = some (.ref ad.f__law_shaped)
  k__law_shaped : PySem.W.keepIn K (.ref ad.f__law_shaped) = true
  F__law_shaped : Fun K "_law_shaped" "_law_shaped" s__law_shaped ad.f__law_shaped ad.fd__law_shaped
  b__law_shaped : L2.Binds K ad.fd__law_shaped ["_law_hand_here", "_law_items"] []
  m__law_box : mg "_law_box" = some (.ref ad.f__law_box)
  k__law_box : PySem.W.keepIn K (.ref ad.f__law_box) = true
  F__law_box : Fun K "_law_box" "_law_box" s__law_box ad.f__law_box ad.fd__law_box
  b__law_box : L2.Binds K ad.fd__law_box ["_law_sides"] []
  m__law_asked : mg "_law_asked" = some (.ref ad.f__law_asked)
  k__law_asked : PySem.W.keepIn K (.ref ad.f__law_asked) = true
  F__law_asked : Fun K "_law_asked" "_law_asked" s__law_asked ad.f__law_asked ad.fd__law_asked
  b__law_asked : L2.Binds K ad.fd__law_asked ["_law_deed", "_law_thing"] []
  m__law_between : mg "_law_between" = some (.ref ad.f__law_between)
  k__law_between : PySem.W.keepIn K (.ref ad.f__law_between) = true
  F__law_between : Fun K "_law_between" "_law_between" s__law_between ad.f__law_between ad.fd__law_between
  b__law_between : L2.Binds K ad.fd__law_between ["_law_deed", "_law_one", "_law_other"] []
  m__law_plain : mg "_law_plain" = some (.ref ad.f__law_plain)
  k__law_plain : PySem.W.keepIn K (.ref ad.f__law_plain) = true
  F__law_plain : Fun K "_law_plain" "_law_plain" s__law_plain ad.f__law_plain ad.fd__law_plain
  b__law_plain : L2.Binds K ad.fd__law_plain ["_law_thing"] []
  m__law_like : mg "_law_like" = some (.ref ad.f__law_like)
  k__law_like : PySem.W.keepIn K (.ref ad.f__law_like) = true
  F__law_like : Fun K "_law_like" "_law_like" s__law_like ad.f__law_like ad.fd__law_like
  b__law_like : L2.Binds K ad.fd__law_like ["_law_one", "_law_other"] []
  m__law_faces : mg "_law_faces" = some (.ref ad.f__law_faces)
  k__law_faces : PySem.W.keepIn K (.ref ad.f__law_faces) = true
  F__law_faces : Fun K "_law_faces" "_law_faces" s__law_faces ad.f__law_faces ad.fd__law_faces
  b__law_faces : L2.Binds K ad.fd__law_faces ["_law_hand_here"] []
  m__law_edges : mg "_law_edges" = some (.ref ad.f__law_edges)
  k__law_edges : PySem.W.keepIn K (.ref ad.f__law_edges) = true
  F__law_edges : Fun K "_law_edges" "_law_edges" s__law_edges ad.f__law_edges ad.fd__law_edges
  b__law_edges : L2.Binds K ad.fd__law_edges ["_law_hand_here"] []
  m__law_spoilt : mg "_law_spoilt" = some (.ref ad.f__law_spoilt)
  k__law_spoilt : PySem.W.keepIn K (.ref ad.f__law_spoilt) = true
  F__law_spoilt : Fun K "_law_spoilt" "_law_spoilt" s__law_spoilt ad.f__law_spoilt ad.fd__law_spoilt
  b__law_spoilt : L2.Binds K ad.fd__law_spoilt ["_law_hand_here", "_law_sides"] []
  m_law : mg "law" = some (.ref ad.f_law)
  k_law : PySem.W.keepIn K (.ref ad.f_law) = true
  F_law : Fun K "law" "law" s_law ad.f_law ad.fd_law
  b_law : L2.Binds K ad.fd_law ["_law_script"] []
  bd_is_whole_3 : ∃ ds : List Value, Vals [] ds ∧ L2.Binds K ad.fd_is_whole ["thing", "low", "high"] ds
variable {K : PySem.W.Frag} {mg : Str → Option Value} {ad : Ad}
theorem txok (T : Txt K mg ad) : TxOk (kt K ad) tx (con ad) := by
  refine ⟨fun p k G => ?_, rfl, rfl, fun k hk => ?_, fun a b r h => ?_, fun j k b h => ?_, fun k b h => ?_⟩
  · match k with
    | 0 => exact T.i_FACE_AXES p G
    | k + 1 => exact (rfl : V.ref 0 = V.ref 0)
  · match k with
    | 0 => exact (hk rfl).elim
    | 1 => exact (hk rfl).elim
    | 2 => exact (hk rfl).elim
    | 3 => exact (hk rfl).elim
    | 4 => exact (hk rfl).elim
    | 5 => exact (hk rfl).elim
    | 6 =>
      refine ⟨T.cl_Box, by decide, by decide, fun f hf => ?_⟩
      rcases (by simpa [tx, flds] using hf : f = Str.ofString "sides") with rfl
      · exact T.na_Box_sides
    | k + 7 => exact (hk rfl).elim
  · have z := lookup_mem (show subs.lookup (a, b) = some r from h)
    simp only [subs, List.mem_cons, List.not_mem_nil, or_false, Prod.mk.injEq] at z
    rcases z with ⟨⟨rfl, rfl⟩, rfl⟩ | ⟨⟨rfl, rfl⟩, rfl⟩ | ⟨⟨rfl, rfl⟩, rfl⟩ | ⟨⟨rfl, rfl⟩, rfl⟩ | ⟨⟨rfl, rfl⟩, rfl⟩ | ⟨⟨rfl, rfl⟩, rfl⟩ | ⟨⟨rfl, rfl⟩, rfl⟩ | ⟨⟨rfl, rfl⟩, rfl⟩ | ⟨⟨rfl, rfl⟩, rfl⟩ | ⟨⟨rfl, rfl⟩, rfl⟩ | ⟨⟨rfl, rfl⟩, rfl⟩ | ⟨⟨rfl, rfl⟩, rfl⟩ | ⟨⟨rfl, rfl⟩, rfl⟩ | ⟨⟨rfl, rfl⟩, rfl⟩ | ⟨⟨rfl, rfl⟩, rfl⟩ | ⟨⟨rfl, rfl⟩, rfl⟩ | ⟨⟨rfl, rfl⟩, rfl⟩ | ⟨⟨rfl, rfl⟩, rfl⟩ | ⟨⟨rfl, rfl⟩, rfl⟩ | ⟨⟨rfl, rfl⟩, rfl⟩ | ⟨⟨rfl, rfl⟩, rfl⟩ | ⟨⟨rfl, rfl⟩, rfl⟩ | ⟨⟨rfl, rfl⟩, rfl⟩ | ⟨⟨rfl, rfl⟩, rfl⟩ | ⟨⟨rfl, rfl⟩, rfl⟩ | ⟨⟨rfl, rfl⟩, rfl⟩ | ⟨⟨rfl, rfl⟩, rfl⟩ | ⟨⟨rfl, rfl⟩, rfl⟩ | ⟨⟨rfl, rfl⟩, rfl⟩ | ⟨⟨rfl, rfl⟩, rfl⟩
    · exact T.e_BadBox_BadBox
    · exact T.e_BadBox_BadCorner
    · exact T.e_BadBox_BadEdge
    · exact T.e_BadBox_BadFace
    · exact T.e_BadBox_NoEdge
    · exact T.e_BadBox_ParcelError
    · exact T.e_BadCorner_BadBox
    · exact T.e_BadCorner_BadCorner
    · exact T.e_BadCorner_BadEdge
    · exact T.e_BadCorner_BadFace
    · exact T.e_BadCorner_NoEdge
    · exact T.e_BadCorner_ParcelError
    · exact T.e_BadEdge_BadBox
    · exact T.e_BadEdge_BadCorner
    · exact T.e_BadEdge_BadEdge
    · exact T.e_BadEdge_BadFace
    · exact T.e_BadEdge_NoEdge
    · exact T.e_BadEdge_ParcelError
    · exact T.e_BadFace_BadBox
    · exact T.e_BadFace_BadCorner
    · exact T.e_BadFace_BadEdge
    · exact T.e_BadFace_BadFace
    · exact T.e_BadFace_NoEdge
    · exact T.e_BadFace_ParcelError
    · exact T.e_NoEdge_BadBox
    · exact T.e_NoEdge_BadCorner
    · exact T.e_NoEdge_BadEdge
    · exact T.e_NoEdge_BadFace
    · exact T.e_NoEdge_NoEdge
    · exact T.e_NoEdge_ParcelError
  · have z := lookup_mem (show iscs.lookup (some j, k) = some b from h)
    simp only [iscs, List.mem_cons, List.not_mem_nil, or_false, Prod.mk.injEq, Option.some.injEq, reduceCtorEq, false_and, false_or, true_and] at z
    rcases z with ⟨⟨rfl, rfl⟩, rfl⟩
    · exact ⟨T.it_Box, T.io_Box_Box⟩
  · have z := lookup_mem (show iscs.lookup (none, k) = some b from h)
    simp only [iscs, List.mem_cons, List.not_mem_nil, or_false, Prod.mk.injEq, Option.some.injEq, reduceCtorEq, false_and, false_or, true_and] at z
    rcases z with ⟨rfl, rfl⟩
    · exact T.in_Box
theorem init_BadBox {Pg : Program} {w : World} {base : Heap} (T : Txt K mg ad) : FnOk Pg w K mg base CX0 1 ad.BadBox___init__ ad.fd_BadBox___init__ ["self", "index"] (spEx ad.BadBox (mkx (tx.xf 1)) 1) := by
  refine T.F_BadBox___init__.ok sc_BadBox___init__ (fun vs H Q E h => ?_) (fun cdv A outer s H vs Q E hr h => ?_)
  · obtain ⟨a, ws, rfl, hw, _⟩ := h
    rw [List.length_cons, hw]; rfl
  · obtain ⟨a, ws, rfl, hw, ha, k⟩ := h
    match ws, hw with
    | [y0], _ =>
      refine ⟨_, (pss_one (ps_ost (pv 0) (pv 1))), ?_⟩
      refine ⟨_, rfl, _, rfl, a, ad.BadBox, rfl, T.o_BadBox, T.xn_BadBox_index, .inl ⟨ha, fun dx nd da => ?_⟩⟩
      refine k dx _ nd da upd_same ?_ fun b h1 h2 => ?_
      · rw [upd_ne da, upd_same]; rfl
      · rw [upd_ne h1, upd_ne h2]
theorem init_BadCorner {Pg : Program} {w : World} {base : Heap} (T : Txt K mg ad) : FnOk Pg w K mg base CX0 1 ad.BadCorner___init__ ad.fd_BadCorner___init__ ["self", "corner"] (spEx ad.BadCorner (mkx (tx.xf 2)) 1) := by
  refine T.F_BadCorner___init__.ok sc_BadCorner___init__ (fun vs H Q E h => ?_) (fun cdv A outer s H vs Q E hr h => ?_)
  · obtain ⟨a, ws, rfl, hw, _⟩ := h
    rw [List.length_cons, hw]; rfl
  · obtain ⟨a, ws, rfl, hw, ha, k⟩ := h
    match ws, hw with
    | [y0], _ =>
      refine ⟨_, (pss_one (ps_ost (pv 0) (pv 1))), ?_⟩
      refine ⟨_, rfl, _, rfl, a, ad.BadCorner, rfl, T.o_BadCorner, T.xn_BadCorner_corner, .inl ⟨ha, fun dx nd da => ?_⟩⟩
      refine k dx _ nd da upd_same ?_ fun b h1 h2 => ?_
      · rw [upd_ne da, upd_same]; rfl
      · rw [upd_ne h1, upd_ne h2]
theorem init_BadEdge {Pg : Program} {w : World} {base : Heap} (T : Txt K mg ad) : FnOk Pg w K mg base CX0 1 ad.BadEdge___init__ ad.fd_BadEdge___init__ ["self", "edge"] (spEx ad.BadEdge (mkx (tx.xf 4)) 1) := by
  refine T.F_BadEdge___init__.ok sc_BadEdge___init__ (fun vs H Q E h => ?_) (fun cdv A outer s H vs Q E hr h => ?_)
  · obtain ⟨a, ws, rfl, hw, _⟩ := h
    rw [List.length_cons, hw]; rfl
  · obtain ⟨a, ws, rfl, hw, ha, k⟩ := h
    match ws, hw with
    | [y0], _ =>
      refine ⟨_, (pss_one (ps_ost (pv 0) (pv 1))), ?_⟩
      refine ⟨_, rfl, _, rfl, a, ad.BadEdge, rfl, T.o_BadEdge, T.xn_BadEdge_edge, .inl ⟨ha, fun dx nd da => ?_⟩⟩
      refine k dx _ nd da upd_same ?_ fun b h1 h2 => ?_
      · rw [upd_ne da, upd_same]; rfl
      · rw [upd_ne h1, upd_ne h2]
theorem init_BadFace {Pg : Program} {w : World} {base : Heap} (T : Txt K mg ad) : FnOk Pg w K mg base CX0 1 ad.BadFace___init__ ad.fd_BadFace___init__ ["self", "face"] (spEx ad.BadFace (mkx (tx.xf 3)) 1) := by
  refine T.F_BadFace___init__.ok sc_BadFace___init__ (fun vs H Q E h => ?_) (fun cdv A outer s H vs Q E hr h => ?_)
  · obtain ⟨a, ws, rfl, hw, _⟩ := h
    rw [List.length_cons, hw]; rfl
  · obtain ⟨a, ws, rfl, hw, ha, k⟩ := h
    match ws, hw with
    | [y0], _ =>
      refine ⟨_, (pss_one (ps_ost (pv 0) (pv 1))), ?_⟩
      refine ⟨_, rfl, _, rfl, a, ad.BadFace, rfl, T.o_BadFace, T.xn_BadFace_face, .inl ⟨ha, fun dx nd da => ?_⟩⟩
      refine k dx _ nd da upd_same ?_ fun b h1 h2 => ?_
      · rw [upd_ne da, upd_same]; rfl
      · rw [upd_ne h1, upd_ne h2]
theorem init_NoEdge {Pg : Program} {w : World} {base : Heap} (T : Txt K mg ad) : FnOk Pg w K mg base CX0 1 ad.NoEdge___init__ ad.fd_NoEdge___init__ ["self", "face", "beside"] (spEx ad.NoEdge (mkx (tx.xf 5)) 2) := by
  refine T.F_NoEdge___init__.ok sc_NoEdge___init__ (fun vs H Q E h => ?_) (fun cdv A outer s H vs Q E hr h => ?_)
  · obtain ⟨a, ws, rfl, hw, _⟩ := h
    rw [List.length_cons, hw]; rfl
  · obtain ⟨a, ws, rfl, hw, ha, k⟩ := h
    match ws, hw with
    | [y0, y1], _ =>
      refine ⟨_, (pss_cons (ps_ost (pv 0) (pv 1)) (pss_one (ps_ost (pv 0) (pv 2)))), ?_⟩
      refine ⟨_, rfl, _, rfl, a, ad.NoEdge, rfl, T.o_NoEdge, T.xn_NoEdge_face, .inl ⟨ha, fun dx nd da => ?_⟩⟩
      refine ⟨_, rfl, _, rfl, a, ad.NoEdge, rfl, T.o_NoEdge, T.xn_NoEdge_beside, .inr ⟨dx, [(Str.ofString "face", y0)], upd_same, ?_, by simp, ?_⟩⟩
      · rw [upd_ne da, upd_same]
      refine k dx _ nd da ?_ upd_same fun b h1 h2 => ?_
      · rw [upd_ne (Ne.symm da), upd_same]
      · rw [upd_ne h2, upd_ne h1, upd_ne h2]
end K02
set_option Elab.async false
set_option linter.all false
namespace Ez
open PySem Tr
/-- holds a function fast, for simp -/
structure Tag {α : Sort _} (f : α) : Type where
section
variable {ε ε' α β : Type} {f : α → Tr ε β} {g : ε → Tr ε' α} {h : ε → ε'}
theorem bind_ret {a : α} : (Tr.ret a : Tr ε α).bind f = f a := rfl
theorem mapX_ret {a : α} : (Tr.ret a : Tr ε α).mapX h = .ret a := rfl
theorem mapX_exn {a : ε} : (Tr.exn a : Tr ε α).mapX h = .exn (h a) := rfl
theorem mapX_bad : (Tr.bad : Tr ε α).mapX h = .bad := rfl
theorem mapX_draw {m : Int} {k : Int → Tr ε α} : (Tr.draw m k).mapX h = .draw m fun v => (k v).mapX h := rfl
theorem noX_ret {a : α} : (Tr.ret a : Tr ε α).noX = .ret a := rfl
theorem noX_exn {a : ε} : (Tr.exn a : Tr ε α).noX = .bad := rfl
theorem noX_bad : (Tr.bad : Tr ε α).noX = .bad := rfl
theorem noD_ret {a : α} : (Tr.ret a : Tr ε α).noD = .ret a := rfl
theorem noD_exn {a : ε} : (Tr.exn a : Tr ε α).noD = .exn a := rfl
theorem noD_bad : (Tr.bad : Tr ε α).noD = .bad := rfl
theorem noX_draw {m : Int} {k : Int → Tr ε α} : (Tr.draw m k).noX = .draw m fun v => (k v).noX := rfl
noncomputable def bindT (t : Tr ε α) (f : α → Tr ε β) (_ : Tag f) : Tr ε β := t.bind f
noncomputable def catT (t : Tr ε α) (g : ε → Tr ε' α) (_ : Tag g) : Tr ε' α := t.catchX g
theorem bind_T {t : Tr ε α} : t.bind f = bindT t f ⟨⟩ := rfl
theorem catch_T {t : Tr ε α} : t.catchX g = catT t g ⟨⟩ := rfl
theorem bindT_ret {a : α} {x : Tag f} : bindT (Tr.ret a : Tr ε α) f x = f a := rfl
theorem bindT_exn {a : ε} {x : Tag f} : bindT (Tr.exn a : Tr ε α) f x = .exn a := rfl
theorem bindT_bad {x : Tag f} : bindT (Tr.bad : Tr ε α) f x = .bad := rfl
theorem bindT_draw {m : Int} {k : Int → Tr ε α} {x : Tag f} : bindT (Tr.draw m k) f x = .draw m fun v => bindT (k v) f ⟨⟩ := rfl
theorem catT_ret {a : α} {x : Tag g} : catT (Tr.ret a : Tr ε α) g x = .ret a := rfl
theorem catT_exn {a : ε} {x : Tag g} : catT (Tr.exn a : Tr ε α) g x = g a := rfl
theorem catT_bad {x : Tag g} : catT (Tr.bad : Tr ε α) g x = .bad := rfl
theorem catT_draw {m : Int} {k : Int → Tr ε α} {x : Tag g} : catT (Tr.draw m k) g x = .draw m fun v => catT (k v) g ⟨⟩ := rfl
end
section
variable {Γ : Pgm} {ρ : Vars}
theorem E_var {x0 : Nat} : evalE Γ (.var x0) ρ = ev_var Γ x0  ρ := rfl
theorem E_lit {x0 : D} : evalE Γ (.lit x0) ρ = ev_lit Γ x0  ρ := rfl
theorem E_con {x0 : Nat} : evalE Γ (.con x0) ρ = ev_con Γ x0  ρ := rfl
theorem E_fnv {x0 : Nat} : evalE Γ (.fnv x0) ρ = ev_fnv Γ x0  ρ := rfl
theorem E_clv {x0 : Nat} : evalE Γ (.clv x0) ρ = ev_clv Γ x0  ρ := rfl
theorem E_op {x0 : Op2} {x1 : EE} {x2 : EE} : evalE Γ (.op x0 x1 x2) ρ = ev_op Γ x0 x1 x2 (evalE Γ x1) (evalE Γ x2) ρ := rfl
theorem E_neg {x0 : EE} : evalE Γ (.neg x0) ρ = ev_neg Γ x0 (evalE Γ x0) ρ := rfl
theorem E_and {x0 : EE} {x1 : EE} : evalE Γ (.and x0 x1) ρ = ev_and Γ x0 x1 (evalE Γ x0) (evalE Γ x1) ρ := rfl
theorem E_or {x0 : EE} {x1 : EE} : evalE Γ (.or x0 x1) ρ = ev_or Γ x0 x1 (evalE Γ x0) (evalE Γ x1) ρ := rfl
theorem E_not {x0 : EE} : evalE Γ (.not x0) ρ = ev_not Γ x0 (evalE Γ x0) ρ := rfl
theorem E_notT {x0 : EE} : evalE Γ (.notT x0) ρ = ev_notT Γ x0 (evalE Γ x0) ρ := rfl
theorem E_isN {x0 : EE} : evalE Γ (.isN x0) ρ = ev_isN Γ x0 (evalE Γ x0) ρ := rfl
theorem E_notN {x0 : EE} : evalE Γ (.notN x0) ρ = ev_notN Γ x0 (evalE Γ x0) ρ := rfl
theorem E_tru {x0 : EE} : evalE Γ (.tru x0) ρ = ev_tru Γ x0 (evalE Γ x0) ρ := rfl
theorem E_chain {x0 : Op2} {x1 : Op2} {x2 : EE} {x3 : EE} {x4 : EE} : evalE Γ (.chain x0 x1 x2 x3 x4) ρ = ev_chain Γ x0 x1 x2 x3 x4 (evalE Γ x2) (evalE Γ x3) (evalE Γ x4) ρ := rfl
theorem E_ifx {x0 : EE} {x1 : EE} {x2 : EE} : evalE Γ (.ifx x0 x1 x2) ρ = ev_ifx Γ x0 x1 x2 (evalE Γ x0) (evalE Γ x1) (evalE Γ x2) ρ := rfl
theorem E_nil  : evalE Γ (.nil ) ρ = ev_nil Γ   ρ := rfl
theorem E_cons {x0 : EE} {x1 : EE} : evalE Γ (.cons x0 x1) ρ = ev_cons Γ x0 x1 (evalE Γ x0) (evalE Γ x1) ρ := rfl
theorem E_star {x0 : EE} {x1 : EE} : evalE Γ (.star x0 x1) ρ = ev_star Γ x0 x1 (evalE Γ x0) (evalE Γ x1) ρ := rfl
theorem E_tup {x0 : EE} : evalE Γ (.tup x0) ρ = ev_tup Γ x0 (evalE Γ x0) ρ := rfl
theorem E_lst {x0 : EE} : evalE Γ (.lst x0) ρ = ev_lst Γ x0 (evalE Γ x0) ρ := rfl
theorem E_slc {x0 : EE} {x1 : EE} {x2 : EE} : evalE Γ (.slc x0 x1 x2) ρ = ev_slc Γ x0 x1 x2 (evalE Γ x0) (evalE Γ x1) (evalE Γ x2) ρ := rfl
theorem E_nop  : evalE Γ (.nop ) ρ = ev_nop Γ   ρ := rfl
theorem E_part {x0 : EE} : evalE Γ (.part x0) ρ = ev_part Γ x0 (evalE Γ x0) ρ := rfl
theorem E_call {x0 : Nat} {x1 : Bool} {x2 : List L2.V} {x3 : EE} : evalE Γ (.call x0 x1 x2 x3) ρ = ev_call Γ x0 x1 x2 x3 (evalE Γ x3) ρ := rfl
theorem E_callV {x0 : Nat} {x1 : Bool} {x2 : EE} : evalE Γ (.callV x0 x1 x2) ρ = ev_callV Γ x0 x1 x2 (evalE Γ x2) ρ := rfl
theorem E_newO {x0 : Nat} {x1 : Nat} {x2 : Bool} {x3 : EE} : evalE Γ (.newO x0 x1 x2 x3) ρ = ev_newO Γ x0 x1 x2 x3 (evalE Γ x3) ρ := rfl
theorem E_take {x0 : EE} : evalE Γ (.take x0) ρ = ev_take Γ x0 (evalE Γ x0) ρ := rfl
theorem E_bi {x0 : Bi} {x1 : EE} : evalE Γ (.bi x0 x1) ρ = ev_bi Γ x0 x1 (evalE Γ x1) ρ := rfl
theorem E_isi {x0 : EE} {x1 : BT} : evalE Γ (.isi x0 x1) ρ = ev_isi Γ x0 x1 (evalE Γ x0) ρ := rfl
theorem E_isi2 {x0 : EE} {x1 : BT} {x2 : BT} : evalE Γ (.isi2 x0 x1 x2) ρ = ev_isi2 Γ x0 x1 x2 (evalE Γ x0) ρ := rfl
theorem E_eqO {x0 : Bool} {x1 x2 : Nat} {x3 x4 : EE} : evalE Γ (.eqO x0 x1 x2 x3 x4) ρ = ev_eqO Γ x0 x1 x2 x3 x4 (evalE Γ x3) (evalE Γ x4) ρ := rfl
theorem E_isC {x0 : EE} {x1 : Nat} : evalE Γ (.isC x0 x1) ρ = ev_isC Γ x0 x1 (evalE Γ x0) ρ := rfl
theorem E_lc {x0 : ItK} {x1 : EE} {x2 : Tg} {x3 : EE} {x4 : EE} {x5 : List Nat} : evalE Γ (.lc x0 x1 x2 x3 x4 x5) ρ = ev_lc Γ x0 x1 x2 x3 x4 x5 (evalE Γ x1) (evalE Γ x3) (evalE Γ x4) ρ := rfl
theorem E_yes  : evalE Γ (.yes ) ρ = ev_yes Γ   ρ := rfl
theorem E_eqR {x0 : Bool} {x1 : EE} {x2 : EE} : evalE Γ (.eqR x0 x1 x2) ρ = ev_eqR Γ x0 x1 x2 (evalE Γ x1) (evalE Γ x2) ρ := rfl
theorem E_xf {x0 : Nat} {x1 : Nat} {x2 : Str} : evalE Γ (.xf x0 x1 x2) ρ = ev_xf Γ x0 x1 x2  ρ := rfl
theorem E_fld {x0 : EE} {x1 : Str} : evalE Γ (.fld x0 x1) ρ = ev_fld Γ x0 x1 (evalE Γ x0) ρ := rfl
theorem E_lenO {x0 : Nat} : evalE Γ (.lenO x0) ρ = ev_lenO Γ x0  ρ := rfl
theorem E_slcO {x0 : Nat} {x1 x2 : EE} : evalE Γ (.slcO x0 x1 x2) ρ = ev_slcO Γ x0 x1 x2 (evalE Γ x1) (evalE Γ x2) ρ := rfl
theorem E_prp {k f : Nat} {x1 : EE} : evalE Γ (.prp k f x1) ρ = ev_prp Γ k f x1 (evalE Γ x1) ρ := rfl
theorem E_lend {x0 : Nat} {x1 : EE} : evalE Γ (.lend x0 x1) ρ = ev_lend Γ x0 x1 (evalE Γ x1) ρ := rfl
theorem E_lstO {x0 : Nat} : evalE Γ (.lstO x0) ρ = ev_lstO Γ x0 ρ := rfl
theorem E_tupO {x0 : Nat} : evalE Γ (.tupO x0) ρ = ev_tupO Γ x0  ρ := rfl
theorem E_ixO {x0 : Nat} {x1 : EE} : evalE Γ (.ixO x0 x1) ρ = ev_ixO Γ x0 x1 (evalE Γ x1) ρ := rfl
theorem S_nop  {x : Option Xn} : evalS Γ (.nop ) x ρ = es_nop Γ   x ρ := rfl
theorem S_seq {x0 : SS} {x1 : SS} {x : Option Xn} : evalS Γ (.seq x0 x1) x ρ = es_seq Γ x0 x1 (evalS Γ x0) (evalS Γ x1) x ρ := rfl
theorem S_asg {x0 : Tg} {x1 : EE} {x : Option Xn} : evalS Γ (.asg x0 x1) x ρ = es_asg Γ x0 x1  x ρ := rfl
theorem S_asgO {x0 : Nat} {x1 : EE} {x : Option Xn} : evalS Γ (.asgO x0 x1) x ρ = es_asgO Γ x0 x1  x ρ := rfl
theorem S_par {x0 : Nat} {x1 : Nat} {x2 : EE} {x : Option Xn} : evalS Γ (.par x0 x1 x2) x ρ = es_par Γ x0 x1 x2  x ρ := rfl
theorem S_app {x0 : Nat} {x1 : EE} {x : Option Xn} : evalS Γ (.app x0 x1) x ρ = es_app Γ x0 x1  x ρ := rfl
theorem S_setO {x0 : Nat} {x1 : EE} {x2 : EE} {x : Option Xn} : evalS Γ (.setO x0 x1 x2) x ρ = es_setO Γ x0 x1 x2  x ρ := rfl
theorem S_ret {x0 : EE} {x : Option Xn} : evalS Γ (.ret x0) x ρ = es_ret Γ x0  x ρ := rfl
theorem S_retN  {x : Option Xn} : evalS Γ (.retN ) x ρ = es_retN Γ   x ρ := rfl
theorem S_ite {x0 : EE} {x1 : SS} {x2 : SS} {x : Option Xn} : evalS Γ (.ite x0 x1 x2) x ρ = es_ite Γ x0 x1 x2 (evalS Γ x1) (evalS Γ x2) x ρ := rfl
theorem S_for {x0 : ItK} {x1 : EE} {x2 : Tg} {x3 : SS} {x : Option Xn} : evalS Γ (.for x0 x1 x2 x3) x ρ = es_for Γ x0 x1 x2 x3 (evalS Γ x3) x ρ := rfl
theorem S_whl {x0 : EE} {x1 : SS} {x : Option Xn} : evalS Γ (.whl x0 x1) x ρ = es_whl Γ x0 x1 (evalS Γ x1) x ρ := rfl
theorem S_rse {x0 : Nat} {x1 : EE} {x : Option Xn} : evalS Γ (.rse x0 x1) x ρ = es_rse Γ x0 x1  x ρ := rfl
theorem S_try {x0 : SS} {x1 : SS} {x : Option Xn} : evalS Γ (.try x0 x1) x ρ = es_try Γ x0 x1 (evalS Γ x0) (evalS Γ x1) x ρ := rfl
theorem S_hnil {x : Option Xn} : evalS Γ .hnil x ρ = .bad := rfl
theorem S_hcons {x0 : Nat} {x1 : Option Nat} {x2 : SS} {x3 : SS} {x : Option Xn} : evalS Γ (.hcons x0 x1 x2 x3) x ρ = es_hcons Γ x0 x1 x2 x3 (evalS Γ x2) (evalS Γ x3) x ρ := rfl
theorem S_drop {x0 : EE} {x : Option Xn} : evalS Γ (.drop x0) x ρ = es_drop Γ x0  x ρ := rfl
theorem S_keep {x0 : Nat} {x1 : SS} {x : Option Xn} : evalS Γ (.keep x0 x1) x ρ = es_keep Γ x0 x1 (evalS Γ x1) x ρ := rfl
theorem S_brk  {x : Option Xn} : evalS Γ (.brk ) x ρ = es_brk Γ   x ρ := rfl
theorem S_cnt  {x : Option Xn} : evalS Γ (.cnt ) x ρ = es_cnt Γ   x ρ := rfl
theorem S_retO {x0 : Nat} {x : Option Xn} : evalS Γ (.retO x0) x ρ = es_retO Γ x0 x ρ := rfl
theorem S_asgC {x0 x1 : Nat} {x2 : Bool} {x3 : List L2.V} {x4 : EE} {x : Option Xn} : evalS Γ (.asgC x0 x1 x2 x3 x4) x ρ = es_asgC Γ x0 x1 x2 x3 x4 x ρ := rfl
theorem S_retX {t a b : EE} {x : Option Xn} : evalS Γ (.retX t a b) x ρ = es_retX Γ t a b x ρ := rfl
end
theorem run_all (T : Text) (n f : Nat) (ds : List D) : T.run (n + 1) f ds = match T.df f with | some d => (match T.ini f with | none => (match T.fr f with | false => runD (T.pgm n) d ds | true => runF (T.pgm n) d ds) | some c => runI (T.pgm n) c d ds) | none => .bad := rfl
theorem run_eq (T : Text) (n f : Nat) (ds : List D) (h : T.ini f = none) (hf : T.fr f = false := by rfl) : T.run (n + 1) f ds = match T.df f with | some d => runD (T.pgm n) d ds | none => .bad := by rw [run_all, h, hf]
theorem pgm_call (T : Text) (n f : Nat) (ds : List D) : (T.pgm n).call f ds = T.run n f ds := rfl
theorem pgm_con (T : Text) (n k : Nat) : (T.pgm n).con k = T.con k := rfl
theorem pgm_fld (T : Text) (n k : Nat) : (T.pgm n).fld k = T.fld k := rfl
theorem pgm_xf (T : Text) (n k : Nat) : (T.pgm n).xf k = T.xf k := rfl
theorem pgm_sub (T : Text) (n a b : Nat) : (T.pgm n).sub a b = T.sub a b := rfl
theorem pgm_most (T : Text) (n : Nat) : (T.pgm n).most = T.most := rfl
theorem pgm_fr (T : Text) (n a : Nat) : (T.pgm n).fr a = T.fr a := rfl
theorem pgm_ok (T : Text) (n a : Nat) : (T.pgm n).ok a = T.ok a := rfl
end Ez
set_option Elab.async false
set_option linter.all false
namespace Ez
open PySem Tr
namespace Tr
variable {ε α : Type}
/-- all leaves are returns that hold P: asked of all draws below a small bound -/
def chk (P : α → Bool) (X : ε → Bool) : Tr ε α → Bool
  | ret a => P a
  | exn e => X e
  | bad => false
  | draw m k => decide (0 < m) && decide (m ≤ 1000) && (List.range m.toNat).all fun v => chk P X (k v)
theorem chk_all {P : α → Bool} {X : ε → Bool} : ∀ {t : Tr ε α}, chk P X t = true → All True (fun a => P a = true) (fun e => X e = true) t
  | ret a, h => h
  | exn e, h => h
  | bad, h => by cases h
  | draw m k, h => by
    simp only [chk, Bool.and_eq_true, decide_eq_true_eq, List.all_eq_true, List.mem_range] at h
    obtain ⟨⟨h0, h1⟩, h2⟩ := h
    have b : m.natAbs < 2 ^ 8000 := Nat.lt_of_lt_of_le (show m.natAbs < 2 ^ 10 by rw [show (2:Nat) ^ 10 = 1024 from rfl]; omega) (Nat.pow_le_pow_right (by decide) (by decide))
    refine ⟨trivial, h0, b, fun v v0 v1 => ?_⟩
    have := h2 v.toNat (by omega)
    rw [Int.toNat_of_nonneg v0] at this
    exact chk_all this
/-- the one return -/
theorem of_chk {P : α → Bool} {X : ε → Bool} {t : Tr ε α} (h : chk P X t = true) (hX : ∀ e, X e = false) : All True (fun a => P a = true) (fun _ => False) t := All.mono (fun _ z => z) (fun e z => by rw [hX e] at z; cases z) (chk_all h)
def only (P : α → Bool) : Tr ε α → Bool
  | ret a => P a
  | _ => false
theorem only_ret {P : α → Bool} : ∀ {t : Tr ε α}, only P t = true → ∃ a, t = ret a ∧ P a = true
  | ret a, h => ⟨a, rfl, h⟩
end Tr
mutual
def deq : D → D → Bool
  | .int a, .int b => decide (a = b)
  | .bl a, .bl b => decide (a = b)
  | .non, .non => true
  | .str a, .str b => decide (a = b)
  | .tup a, .tup b => deqL a b
  | .lst a, .lst b => deqL a b
  | _, _ => false
def deqL : List D → List D → Bool
  | [], [] => true
  | x :: xs, y :: ys => deq x y && deqL xs ys
  | _, _ => false
end
mutual
theorem deq_eq : ∀ {a b : D}, deq a b = true → a = b
  | .int a, b, h => by cases b <;> simp_all [deq]
  | .bl a, b, h => by cases b <;> simp_all [deq]
  | .non, b, h => by cases b <;> simp_all [deq]
  | .str a, b, h => by cases b <;> simp_all [deq]
  | .tup a, b, h => by
    cases b <;> simp only [deq, Bool.false_eq_true] at h
    exact congrArg D.tup (deqL_eq h)
  | .lst a, b, h => by
    cases b <;> simp only [deq, Bool.false_eq_true] at h
    exact congrArg D.lst (deqL_eq h)
theorem deqL_eq : ∀ {a b : List D}, deqL a b = true → a = b
  | [], b, h => by cases b <;> simp_all [deqL]
  | x :: xs, [], h => by simp [deqL] at h
  | x :: xs, y :: ys, h => by
    simp only [deqL, Bool.and_eq_true] at h
    rw [deq_eq h.1, deqL_eq h.2]
end
/-- what a walk leaves -/
def Fl.goes (I : Vars → Prop) : Fl → Prop
  | .nx ρ => I ρ
  | .ct ρ => I ρ
  | .bk ρ => I ρ
  | .rt _ _ => False
  | .rf _ _ => False
def Fl.gone (I : Vars → Prop) : Fl → Prop
  | .nx ρ => I ρ
  | _ => False
end Ez
set_option Elab.async false
set_option linter.all false
namespace Ez
open PySem Tr
variable {hd : Prop} {Γ : Pgm} {ρ : Vars} {a b : SS}
theorem All.seq {Q : Fl → Prop} {X : Xn × Vars → Prop} (h : All hd (fun fl => ∃ ρ', fl = .nx ρ' ∧ All hd Q X (evalS Γ b none ρ')) X (evalS Γ a none ρ)) : All hd Q X (evalS Γ (.seq a b) none ρ) := by
  rw [S_seq]
  refine All.to_bind (All.mono ?_ (fun _ z => z) h)
  rintro fl ⟨ρ', rfl, z⟩
  exact z
/-- a def that only returns -/
theorem All.runD {Q : D → Prop} {d : Df} {ds : List D} (n : ds.length = d.ps) (h : All hd (fun fl => ∃ x ρ', fl = .rt x ρ' ∧ Q x) (fun _ => False) (evalS Γ d.body none (startD d ds))) : All hd Q (fun _ => False) (runD Γ d ds) := by
  rw [Ez.runD, if_pos n]
  refine All.to_mapX (All.to_bind (All.mono ?_ (fun _ z => z) h))
  rintro fl ⟨x, ρ', rfl, z⟩
  exact z
theorem All.drawI {ε α : Type} {m : Int} {k : Int → Tr ε α} {P : α → Prop} {X : ε → Prop} (m0 : 0 < m) (m1 : m ≤ 100000) (h : ∀ v, 0 ≤ v → v < m → All True P X (k v)) : All True P X (.draw m k) :=
  ⟨trivial, m0, Nat.lt_of_lt_of_le (show m.natAbs < 2 ^ 20 by rw [show (2 : Nat) ^ 20 = 1048576 from rfl]; omega) (Nat.pow_le_pow_right (by decide) (by decide)), h⟩
theorem o2_eq_int {a b : Int} : o2_eq (.int a) (.int b) = .ret (.bl (decide (a = b))) := by
  have : D.eqv (.int a) (.int b) = decide (a = b) := by
    by_cases h : a = b <;> simp [D.eqv, D.py, PyData.eqv, h]
  have c : ((D.int a).cmp && (D.int b).cmp) = true := rfl
  rw [o2_eq, if_pos c, this]
theorem All.bnd {ε α β : Type} {t : Tr ε α} {f : α → Tr ε β} {P : α → Prop} {Q : β → Prop} {X Y : ε → Prop} (h : All hd P Y t) (k : ∀ a, P a → All hd Q X (f a)) (y : ∀ e, Y e → X e) : All hd Q X (t.bind f) :=
  All.to_bind (All.mono k y h)
theorem All.bnd0 {ε α β : Type} {t : Tr ε α} {f : α → Tr ε β} {P : α → Prop} {Q : β → Prop} {X : ε → Prop} (h : All hd P (fun _ => False) t) (k : ∀ a, P a → All hd Q X (f a)) : All hd Q X (t.bind f) := All.bnd h k fun _ z => z.elim
theorem All.bndA {α β : Type} {t : Tr Xn α} {ρ : Vars} {f : α → Tr (Xn × Vars) β} {P : α → Prop} {Q : β → Prop} {X : Xn × Vars → Prop} (h : All hd P (fun _ => False) t) (k : ∀ a, P a → All hd Q X (f a)) : All hd Q X ((at_ t ρ).bind f) := All.to_bind (All.to_mapX (All.mono k (fun _ z => z.elim) h))
end Ez
set_option Elab.async false
set_option linter.all false
set_option maxRecDepth 100000
namespace Ez
open PySem Tr
def Sv.le (a b : Sv) : Prop := a = b ∨ (a = .unk ∧ b.isExc = false)
def vle : Vars → Vars → Prop
  | [], [] => True
  | a :: r, b :: s => Sv.le a b ∧ vle r s
  | _, _ => False
theorem Sv.le_refl {a : Sv} : Sv.le a a := Or.inl rfl
theorem vle_refl : ∀ {ρ : Vars}, vle ρ ρ
  | [] => trivial
  | _ :: _ => ⟨Sv.le_refl, vle_refl⟩
theorem vle_len : ∀ {ρ ρ' : Vars}, vle ρ ρ' → ρ.length = ρ'.length
  | [], [], _ => rfl
  | _ :: _, _ :: _, h => congrArg (· + 1) (vle_len h.2)
theorem vle_set : ∀ {ρ ρ' : Vars} {i : Nat} {a b : Sv}, vle ρ ρ' → Sv.le a b → vle (ρ.set i a) (ρ'.set i b)
  | [], [], _, _, _, _, _ => trivial
  | _ :: _, _ :: _, 0, _, _, h, k => ⟨k, h.2⟩
  | _ :: _, _ :: _, _ + 1, _, _, h, k => ⟨h.1, vle_set h.2 k⟩
theorem vle_get : ∀ {ρ ρ' : Vars} {i : Nat} {v : Sv}, vle ρ ρ' → ρ[i]? = some v → ∃ w, ρ'[i]? = some w ∧ Sv.le v w
  | _ :: _, b :: _, 0, _, h, e => by
    simp only [List.getElem?_cons_zero, Option.some.injEq] at e
    exact ⟨b, by simp, e ▸ h.1⟩
  | _ :: _, _ :: _, i + 1, v, h, e => by
    simp only [List.getElem?_cons_succ] at e ⊢
    exact vle_get h.2 e
namespace Tr
def le {ε ε' α β : Type} (RX : ε → ε' → Prop) (R : α → β → Prop) : Tr ε α → Tr ε' β → Prop
  | bad, _ => True
  | ret a, ret b => R a b
  | exn e, exn e' => RX e e'
  | draw m k, draw m' k' => m = m' ∧ ∀ v, le RX R (k v) (k' v)
  | _, _ => False
variable {ε ε' ε₂ ε₂' α β α' β' : Type} {RX : ε → ε' → Prop} {R : α → β → Prop} {RY : ε₂ → ε₂' → Prop} {R' : α' → β' → Prop}
theorem le_bad {t : Tr ε' β} : le RX R (bad : Tr ε α) t := by cases t <;> trivial
theorem le_refl {t : Tr ε α} : le Eq Eq t t := by
  induction t with
  | ret a => rfl
  | exn e => rfl
  | bad => trivial
  | draw m k ih => exact ⟨rfl, ih⟩
theorem le_bind {f : α → Tr ε α'} {f' : β → Tr ε' β'} : ∀ {t : Tr ε α} {t' : Tr ε' β}, le RX R t t' → (∀ a b, R a b → le RX R' (f a) (f' b)) → le RX R' (t.bind f) (t'.bind f')
  | bad, t', _, _ => le_bad
  | ret a, ret b, h, k => k a b h
  | exn a, exn b, h, _ => h
  | draw m q, draw m' q', h, k => ⟨h.1, fun v => le_bind (h.2 v) k⟩
theorem le_mapX {g : ε → ε₂} {g' : ε' → ε₂'} : ∀ {t : Tr ε α} {t' : Tr ε' β}, le RX R t t' → (∀ a b, RX a b → RY (g a) (g' b)) → le RY R (t.mapX g) (t'.mapX g')
  | bad, t', _, _ => le_bad
  | ret a, ret b, h, k => h
  | exn a, exn b, h, k => k a b h
  | draw m q, draw m' q', h, k => ⟨h.1, fun v => le_mapX (h.2 v) k⟩
theorem le_noX : ∀ {t : Tr ε α} {t' : Tr ε' β}, le RX R t t' → le RX R t.noX t'.noX
  | bad, t', _ => le_bad
  | ret a, ret b, h => h
  | exn a, exn b, h => le_bad
  | draw m q, draw m' q', h => ⟨h.1, fun v => le_noX (h.2 v)⟩
theorem le_noD : ∀ {t : Tr ε α} {t' : Tr ε' β}, le RX R t t' → le RX R t.noD t'.noD
  | bad, t', _ => le_bad
  | ret a, ret b, h => h
  | exn a, exn b, h => h
  | draw m q, draw m' q', h => le_bad
theorem le_catch {f : ε → Tr ε₂ α} {f' : ε' → Tr ε₂' β} : ∀ {t : Tr ε α} {t' : Tr ε' β}, le RX R t t' → (∀ a b, RX a b → le RY R (f a) (f' b)) → le RY R (t.catchX f) (t'.catchX f')
  | bad, t', _, _ => le_bad
  | ret a, ret b, h, k => h
  | exn a, exn b, h, k => k a b h
  | draw m q, draw m' q', h, k => ⟨h.1, fun v => le_catch (h.2 v) k⟩
theorem All.up {hd : Prop} {P : α → Prop} {X : ε → Prop} {P' : β → Prop} {X' : ε' → Prop} (hP : ∀ a b, R a b → P a → P' b) (hX : ∀ a b, RX a b → X a → X' b) : ∀ {t : Tr ε α} {t' : Tr ε' β}, le RX R t t' → All hd P X t → All hd P' X' t'
  | ret a, ret b, h, k => hP a b h k
  | exn a, exn b, h, k => hX a b h k
  | draw m q, draw m' q', h, ⟨a, b, c, d⟩ => by
    obtain ⟨rfl, h⟩ := h
    exact ⟨a, b, c, fun v v0 v1 => All.up hP hX (h v) (d v v0 v1)⟩
end Tr
abbrev LE (t t' : R) : Prop := Tr.le Eq Eq t t'
theorem LE.bind {α' β' : Type} {R' : α' → β' → Prop} {f : D → Tr Xn α'} {f' : D → Tr Xn β'} {t t' : R} (h : LE t t') (k : ∀ a, Tr.le Eq R' (f a) (f' a)) : Tr.le Eq R' (t.bind f) (t'.bind f') := Tr.le_bind h fun a b e => e ▸ k a
theorem le_getV {ρ ρ' : Vars} {i : Nat} (h : vle ρ ρ') : LE (getV ρ i) (getV ρ' i) := by
  unfold getV
  split
  · rename_i d e
    obtain ⟨w, e', l⟩ := vle_get h e
    rcases l with rfl | ⟨z, _⟩
    · rw [e']; exact rfl
    · cases z
  · exact Tr.le_bad
theorem le_getO {ρ ρ' : Vars} {i : Nat} (h : vle ρ ρ') : LE (getO ρ i) (getO ρ' i) := by
  unfold getO
  split
  · rename_i d e
    obtain ⟨w, e', l⟩ := vle_get h e
    rcases l with rfl | ⟨z, _⟩
    · rw [e']; exact rfl
    · cases z
  · rename_i d e
    obtain ⟨w, e', l⟩ := vle_get h e
    rcases l with rfl | ⟨z, _⟩
    · rw [e']; exact rfl
    · cases z
  · exact Tr.le_bad
end Ez
set_option Elab.async false
set_option linter.all false
set_option maxRecDepth 100000
namespace Ez
open PySem Tr
theorem le_evalG : ∀ {b : Bool} {tg : Tg} {x : D} {ρ ρ' r : Vars}, vle ρ ρ' → evalG b tg x ρ = some r → ∃ r', evalG b tg x ρ' = some r' ∧ vle r r' := by
  intro b tg
  induction tg generalizing b with
  | name i =>
    intro x ρ ρ' r h e
    cases b
    · simp only [evalG] at e ⊢
      split at e
      · rename_i hl
        cases e
        exact ⟨_, if_pos (vle_len h ▸ hl), vle_set h Sv.le_refl⟩
      · cases e
    · simp [evalG] at e
  | tup t ih =>
    intro x ρ ρ' r h e
    cases b
    · cases x <;> simp only [evalG, reduceCtorEq] at e ⊢
      all_goals
        split at e
        · rename_i hl
          obtain ⟨r', e', v⟩ := ih h e
          exact ⟨r', (if_pos hl).trans e', v⟩
        · cases e
    · simp [evalG] at e
  | nil =>
    intro x ρ ρ' r h e
    cases b
    · simp [evalG] at e
    · match x, e with
      | .tup [], e =>
        simp only [evalG, Option.some.injEq] at e ⊢
        exact ⟨ρ', rfl, e ▸ h⟩
  | cons a c iha ihc =>
    intro x ρ ρ' r h e
    cases b
    · simp [evalG] at e
    · match x, e with
      | .tup (x :: xs), e =>
        simp only [evalG] at e ⊢
        split at e
        · rename_i r1 e1
          obtain ⟨r1', e1', v1⟩ := iha h e1
          obtain ⟨r', e', v⟩ := ihc v1 e
          exact ⟨r', by rw [e1']; exact e', v⟩
        · cases e
theorem le_wipe {ρ ρ' : Vars} (h : vle ρ ρ') : ∀ {vs : List Nat}, vle (wipeV ρ vs) (wipeV ρ' vs)
  | [] => h
  | _ :: _ => vle_set (le_wipe h) Sv.le_refl
theorem le_lcGo {f f' : D → Tr Xn (Option D)} (h : ∀ x, Tr.le Eq Eq (f x) (f' x)) : ∀ {l acc : List D}, LE (lcGo f l acc) (lcGo f' l acc)
  | [], _ => rfl
  | x :: xs, acc => by
    refine Tr.le_bind (h x) ?_
    rintro a _ rfl
    cases a <;> exact le_lcGo h
theorem le_lcGo2 {f f' : D → List D → R} (h : ∀ x acc, LE (f x acc) (f' x acc)) : ∀ {l acc : List D}, LE (lcGo2 f l acc) (lcGo2 f' l acc)
  | [], _ => rfl
  | x :: xs, acc => by
    refine Tr.le_bind (h x acc) ?_
    rintro a _ rfl
    cases a <;> first | exact le_lcGo2 h | exact Tr.le_bad
theorem leE {Γ : Pgm} (e : EE) : ∀ {ρ ρ' : Vars}, vle ρ ρ' → LE (evalE Γ e ρ) (evalE Γ e ρ') := by
  induction e with
  | var i => exact fun h => le_getV h
  | lit d => exact fun h => Tr.le_refl
  | con k => exact fun h => Tr.le_refl
  | fnv f => exact fun h => Tr.le_refl
  | clv c => exact fun h => Tr.le_refl
  | op o a b iha ihb => exact fun h => (iha h).bind fun x => (ihb h).bind fun y => Tr.le_refl
  | neg a ih => exact fun h => (ih h).bind fun x => Tr.le_refl
  | and a b iha ihb =>
    exact fun h => (iha h).bind fun x => by
      split
      · exact ihb h
      · exact Tr.le_refl
      · exact Tr.le_refl
  | or a b iha ihb =>
    exact fun h => (iha h).bind fun x => by
      split
      · exact ihb h
      · exact Tr.le_refl
      · exact Tr.le_refl
  | not a ih => exact fun h => (ih h).bind fun x => Tr.le_refl
  | notT a ih => exact fun h => (ih h).bind fun x => Tr.le_refl
  | isN a ih => exact fun h => (ih h).bind fun x => Tr.le_refl
  | notN a ih => exact fun h => (ih h).bind fun x => Tr.le_refl
  | tru a ih => exact fun h => (ih h).bind fun x => Tr.le_refl
  | chain o o' a b c iha ihb ihc =>
    exact fun h => (iha h).bind fun x => (ihb h).bind fun y => LE.bind Tr.le_refl fun z => by
      split
      · exact (ihc h).bind fun w => Tr.le_refl
      · exact Tr.le_refl
      · exact Tr.le_refl
  | ifx t a b iht iha ihb =>
    exact fun h => (iht h).bind fun x => by
      split
      · exact iha h
      · exact ihb h
      · exact Tr.le_refl
  | nil => exact fun h => Tr.le_refl
  | cons a b iha ihb => exact fun h => (iha h).bind fun x => (ihb h).bind fun y => Tr.le_refl
  | star a b iha ihb =>
    exact fun h => (iha h).bind fun x => (by
      cases seqL x with
      | none => exact Tr.le_refl
      | some l => exact (ihb h).bind fun y => Tr.le_refl)
  | tup a ih => exact fun h => (ih h).bind fun x => Tr.le_refl
  | lst a ih => exact fun h => (ih h).bind fun x => Tr.le_refl
  | bk0 a ih => exact fun h => (ih h).bind fun x => Tr.le_refl
  | slc a lo hi iha ihl ihh =>
    exact fun h => (iha h).bind fun x => (ihl h).bind fun l => by
      split
      · exact Tr.le_refl
      · exact (ihh h).bind fun y => Tr.le_refl
  | nop => exact fun h => Tr.le_refl
  | part a ih => exact fun h => (ih h).bind fun x => Tr.le_refl
  | call f sk dvs a ih => exact fun h => (ih h).bind fun x => Tr.le_refl
  | newO c f sk a ih => exact fun h => (ih h).bind fun x => Tr.le_refl
  | callV i sk a ih =>
    exact fun h => (le_getV h).bind fun x => by
      split
      · split
        · exact (ih h).bind fun y => Tr.le_refl
        · exact Tr.le_refl
      · exact Tr.le_refl
  | take a ih => exact fun h => (ih h).bind fun x => Tr.le_refl
  | bi b a ih => exact fun h => (ih h).bind fun x => Tr.le_refl
  | isi a t ih => exact fun h => (ih h).bind fun x => Tr.le_refl
  | isi2 a t u ih => exact fun h => (ih h).bind fun x => Tr.le_refl
  | eqO n c f a b iha ihb => exact fun h => (iha h).bind fun x => (ihb h).bind fun y => Tr.le_refl
  | isC a c ih => exact fun h => (ih h).bind fun x => Tr.le_refl
  | lc k it tg t e vs iht ihc ihe =>
    exact fun h => (iht h).bind fun d => by
      split
      · split
        · refine le_lcGo fun x => ?_
          split
          · rename_i r e1
            obtain ⟨r', e', v⟩ := le_evalG (le_wipe h) e1
            rw [e']
            refine Tr.le_bind (Tr.le_noX (ihc v)) ?_
            rintro z _ rfl
            split
            · refine Tr.le_bind (Tr.le_noX (ihe v)) ?_
              rintro y _ rfl
              exact rfl
            · exact Tr.le_refl
            · exact Tr.le_refl
          · exact Tr.le_bad
        · exact Tr.le_refl
      · exact Tr.le_refl
  | lc2 k it tg t k1 it1 tg1 t1 e vs vs1 iht ihc iht1 ihc1 ihe =>
    intro ρ ρ' h
    show Tr.le Eq Eq (ev_lc2 Γ k it tg t k1 it1 tg1 t1 e vs vs1 (evalE Γ it) (evalE Γ t) (evalE Γ it1) (evalE Γ t1) (evalE Γ e) ρ) (ev_lc2 Γ k it tg t k1 it1 tg1 t1 e vs vs1 (evalE Γ it) (evalE Γ t) (evalE Γ it1) (evalE Γ t1) (evalE Γ e) ρ')
    unfold ev_lc2
    split
    · refine (iht h).bind fun d => ?_
      split
      · refine le_lcGo2 fun x acc => ?_
        unfold lc2F
        split
        · rename_i r e1
          obtain ⟨r', e', v⟩ := le_evalG (le_wipe h) e1
          rw [e']
          refine Tr.le_bind (Tr.le_noX (ihc v)) ?_
          rintro z _ rfl
          split
          · refine Tr.le_bind (Tr.le_noX (iht1 v)) ?_
            rintro z _ rfl
            split
            · split
              · refine le_lcGo fun x => ?_
                split
                · rename_i r2 e2
                  obtain ⟨r2', e2', v2⟩ := le_evalG (le_wipe v) e2
                  rw [e2']
                  refine Tr.le_bind (Tr.le_noX (ihc1 v2)) ?_
                  rintro z _ rfl
                  split
                  · refine Tr.le_bind (Tr.le_noX (ihe v2)) ?_
                    rintro y _ rfl
                    exact rfl
                  · exact Tr.le_refl
                  · exact Tr.le_refl
                · exact Tr.le_bad
              · exact Tr.le_refl
            · exact Tr.le_refl
          · exact Tr.le_refl
          · exact Tr.le_refl
        · exact Tr.le_bad
      · exact Tr.le_refl
    · exact Tr.le_refl
  | yes => exact fun h => Tr.le_refl
  | eqR n a b iha ihb =>
    exact fun h => (iha h).bind fun x => by
      split
      · exact (ihb h).bind fun y => Tr.le_refl
      · exact Tr.le_refl
  | xf i c f =>
    intro ρ ρ' h
    show Tr.le Eq Eq (ev_xf Γ i c f ρ) (ev_xf Γ i c f ρ')
    unfold ev_xf
    split
    · rename_i c' ds e
      obtain ⟨w, e', l⟩ := vle_get h e
      rcases l with rfl | ⟨z, _⟩
      · rw [e']; exact Tr.le_refl
      · cases z
    · exact Tr.le_bad
  | fld a f ih => exact fun h => (ih h).bind fun x => Tr.le_refl
  | lenO i => exact fun h => (le_getO h).bind fun x => Tr.le_refl
  | tupO i => exact fun h => (le_getO h).bind fun x => Tr.le_refl
  | ixO i a ih => exact fun h => (le_getO h).bind fun x => (ih h).bind fun y => Tr.le_refl
  | slcO i lo hi ihl ihh =>
    exact fun h => (le_getO h).bind fun x => (ihl h).bind fun l => by
      split
      · exact Tr.le_refl
      · exact (ihh h).bind fun y => Tr.le_refl
  | idx a b iha ihb =>
    exact fun h => (iha h).bind fun x => by
      split
      · exact (ihb h).bind fun y => Tr.le_refl
      · exact Tr.le_refl
  | lend i a ih =>
    intro ρ ρ' h
    show Tr.le Eq Eq (ev_lend Γ i a (evalE Γ a) ρ) (ev_lend Γ i a (evalE Γ a) ρ')
    unfold ev_lend
    split
    · rename_i ds e
      obtain ⟨w, e', l⟩ := vle_get h e
      rcases l with rfl | ⟨z, _⟩
      · rw [e']
        exact LE.bind (Tr.le_noD (Tr.le_noX (ih (vle_set h Sv.le_refl)))) fun x => Tr.le_refl
      · cases z
    · rename_i d e
      obtain ⟨w, e', l⟩ := vle_get h e
      rcases l with rfl | ⟨z, _⟩
      · rw [e']; exact ih h
      · cases z
    · exact Tr.le_bad
  | lstO i => exact fun h => (le_getO h).bind fun x => Tr.le_refl
  | cmpO n i b ih => exact fun h => (le_getO h).bind fun x => (ih h).bind fun y => Tr.le_refl
  | prp k f a ih => exact fun h => (ih h).bind fun x => Tr.le_refl
end Ez
set_option Elab.async false
set_option linter.all false
set_option maxRecDepth 100000
namespace Ez
open PySem Tr
def Fl.le : Fl → Fl → Prop
  | .nx a, .nx b => vle a b
  | .rt d a, .rt e b => d = e ∧ vle a b
  | .rf d a, .rf e b => d = e ∧ vle a b
  | .bk a, .bk b => vle a b
  | .ct a, .ct b => vle a b
  | _, _ => False
def xle (a b : Xn × Vars) : Prop := a.1 = b.1 ∧ vle a.2 b.2
abbrev LS (t t' : RS) : Prop := Tr.le xle Fl.le t t'
theorem Fl.le_refl {a : Fl} : Fl.le a a := by cases a <;> first | exact vle_refl | exact ⟨rfl, vle_refl⟩
theorem vle_none : ∀ {ρ ρ' : Vars} {i : Nat}, vle ρ ρ' → ρ[i]? = none → ρ'[i]? = none
  | [], [], _, _, _ => by simp
  | _ :: _, _ :: _, 0, _, e => by simp at e
  | _ :: _, _ :: _, i + 1, h, e => by
    simp only [List.getElem?_cons_succ] at e ⊢
    exact vle_none h.2 e
theorem vle_setR : ∀ {ρ ρ' : Vars} {i : Nat} {b : Sv}, vle ρ ρ' → ρ[i]? = some .unk → b.isExc = false → vle ρ (ρ'.set i b)
  | _ :: _, _ :: _, 0, b, h, e, k => by
    simp only [List.getElem?_cons_zero, Option.some.injEq] at e
    exact ⟨Or.inr ⟨e, k⟩, h.2⟩
  | _ :: _, _ :: _, i + 1, b, h, e, k => by
    simp only [List.getElem?_cons_succ] at e
    exact ⟨h.1, vle_setR h.2 e k⟩
theorem vle_clr : ∀ {ρ ρ' : Vars}, vle ρ ρ' → vle (ρ.map Sv.clr) (ρ'.map Sv.clr)
  | [], [], _ => trivial
  | a :: _, b :: _, h => by
    refine ⟨?_, vle_clr h.2⟩
    rcases h.1 with rfl | ⟨rfl, k⟩
    · exact Sv.le_refl
    · refine Or.inr ⟨rfl, ?_⟩
      cases b <;> simp_all [Sv.clr, Sv.isExc]
theorem vle_noExc : ∀ {ρ ρ' : Vars}, vle ρ ρ' → noExc ρ = noExc ρ'
  | [], [], _ => rfl
  | a :: r, b :: s, h => by
    have := vle_noExc h.2
    simp only [noExc, List.all_cons] at this ⊢
    rw [this]
    rcases h.1 with rfl | ⟨rfl, k⟩
    · rfl
    · rw [k]; rfl
theorem Fl.le_clr {a b : Fl} (h : Fl.le a b) : Fl.le a.clr b.clr := by
  cases a <;> cases b <;> first | exact vle_clr h | exact ⟨h.1, vle_clr h.2⟩ | exact h.elim
theorem Fl.le_off {a b : Fl} {i : Nat} (h : Fl.le a b) : Fl.le (a.off i) (b.off i) := by
  cases a <;> cases b <;> first | exact vle_set h Sv.le_refl | exact h | exact h.elim
theorem LE.at_ {α' β' : Type} {R' : α' → β' → Prop} {f : D → Tr (Xn × Vars) α'} {f' : D → Tr (Xn × Vars) β'} {t t' : R} {ρ ρ' : Vars} (h : LE t t') (v : vle ρ ρ') (k : ∀ a, Tr.le xle R' (f a) (f' a)) : Tr.le xle R' ((Ez.at_ t ρ).bind f) ((Ez.at_ t' ρ').bind f') :=
  Tr.le_bind (Tr.le_mapX (RY := xle) h fun a b e => ⟨e, v⟩) fun a b e => e ▸ k a
theorem le_forGo {f f' : D → Vars → RS} (h : ∀ x ρ ρ', vle ρ ρ' → LS (f x ρ) (f' x ρ')) : ∀ {l : List D} {ρ ρ' : Vars}, vle ρ ρ' → LS (forGo f l ρ) (forGo f' l ρ')
  | [], _, _, v => v
  | x :: xs, ρ, ρ', v => by
    refine Tr.le_bind (h x ρ ρ' v) ?_
    intro a b k
    cases a <;> cases b <;> first | exact le_forGo h k | exact k | exact k.elim
theorem le_whGo {t : Vars → Tr Xn D} {f : Vars → RS} (ht : ∀ ρ ρ', vle ρ ρ' → LE (t ρ) (t ρ')) (h : ∀ ρ ρ', vle ρ ρ' → LS (f ρ) (f ρ')) : ∀ {n : Nat} {ρ ρ' : Vars}, vle ρ ρ' → LS (whGo t f n ρ) (whGo t f n ρ')
  | 0, _, _, v => Tr.le_bad
  | n + 1, ρ, ρ', v => by
    refine (ht ρ ρ' v).at_ v fun d => ?_
    split
    · refine Tr.le_bind (h ρ ρ' v) ?_
      intro a b k
      cases a <;> cases b <;> first | exact le_whGo ht h k | exact k | exact k.elim
    · exact v
    · exact Tr.le_bad
theorem leS {Γ : Pgm} (s : SS) : ∀ {x : Option Xn} {ρ ρ' : Vars}, vle ρ ρ' → LS (evalS Γ s x ρ) (evalS Γ s x ρ') := by
  induction s with
  | nop => intro x ρ ρ' h; cases x with | none => exact h | some x => exact Tr.le_bad
  | seq a b iha ihb =>
    intro x ρ ρ' h
    cases x with
    | some x => exact Tr.le_bad
    | none =>
      refine Tr.le_bind (iha h) ?_
      intro a b k
      cases a <;> cases b <;> first | exact ihb k | exact k | exact k.elim
  | asg tg e =>
    intro x ρ ρ' h
    cases x with
    | some x => exact Tr.le_bad
    | none =>
      refine (leE e h).at_ h fun d => ?_
      split
      · rename_i r e1
        obtain ⟨r', e', v⟩ := le_evalG h e1
        rw [e']
        exact v
      · exact Tr.le_bad
  | asgO i e =>
    intro x ρ ρ' h
    cases x with
    | some x => exact Tr.le_bad
    | none =>
      show LS (es_asgO Γ i e none ρ) (es_asgO Γ i e none ρ')
      simp only [es_asgO]
      rw [← vle_len h]
      split
      · refine (leE e h).at_ h fun d => ?_
        split
        · exact vle_set h Sv.le_refl
        · exact Tr.le_bad
      · exact Tr.le_bad
  | par i j a =>
    intro x ρ ρ' h
    cases x with
    | some x => exact Tr.le_bad
    | none =>
      refine (leE a h).at_ h fun d => ?_
      rw [← vle_len h]
      split
      · split
        · exact vle_set (vle_set h Sv.le_refl) Sv.le_refl
        · exact Tr.le_bad
      · exact Tr.le_bad
  | par3 i j l a =>
    intro x ρ ρ' h
    cases x with
    | some x => exact Tr.le_bad
    | none =>
      refine (leE a h).at_ h fun d => ?_
      rw [← vle_len h]
      split
      · split
        · exact vle_set (vle_set (vle_set h Sv.le_refl) Sv.le_refl) Sv.le_refl
        · exact Tr.le_bad
      · exact Tr.le_bad
  | app i e =>
    intro x ρ ρ' h
    cases x with
    | some x => exact Tr.le_bad
    | none =>
      show LS (es_app Γ i e none ρ) (es_app Γ i e none ρ')
      simp only [es_app]
      split
      · rename_i ds e1
        obtain ⟨w, e', l⟩ := vle_get h e1
        rcases l with rfl | ⟨z, _⟩
        · rw [e']
          refine (leE e h).at_ h fun d => ?_
          split
          · exact vle_set h Sv.le_refl
          · exact Tr.le_bad
        · cases z
      · exact Tr.le_bad
  | setO i ix e =>
    intro x ρ ρ' h
    cases x with
    | some x => exact Tr.le_bad
    | none =>
      show LS (es_setO Γ i ix e none ρ) (es_setO Γ i ix e none ρ')
      simp only [es_setO]
      split
      · rename_i ds e1
        obtain ⟨w, e', l⟩ := vle_get h e1
        rcases l with rfl | ⟨z, _⟩
        · rw [e']
          refine (leE e h).at_ h fun d => (leE ix h).at_ h fun y => ?_
          split
          · split
            · exact vle_set h Sv.le_refl
            · exact Tr.le_bad
          · exact Tr.le_bad
        · cases z
      · exact Tr.le_bad
  | ret e =>
    intro x ρ ρ' h
    cases x with
    | some x => exact Tr.le_bad
    | none => exact (leE e h).at_ h fun d => ⟨rfl, h⟩
  | retN => intro x ρ ρ' h; cases x with | none => exact ⟨rfl, h⟩ | some x => exact Tr.le_bad
  | ite t a b iha ihb =>
    intro x ρ ρ' h
    cases x with
    | some x => exact Tr.le_bad
    | none =>
      refine (leE t h).at_ h fun d => ?_
      split
      · exact iha h
      · exact ihb h
      · exact Tr.le_bad
  | «for» k it tg b ih =>
    intro x ρ ρ' h
    cases x with
    | some x => exact Tr.le_bad
    | none =>
      refine (leE it h).at_ h fun d => ?_
      split
      · refine le_forGo (fun y ρ ρ' v => ?_) h
        split
        · rename_i r e1
          obtain ⟨r', e', v'⟩ := le_evalG v e1
          rw [e']
          exact ih v'
        · exact Tr.le_bad
      · exact Tr.le_bad
  | whl t b ih =>
    intro x ρ ρ' h
    cases x with
    | some x => exact Tr.le_bad
    | none => exact le_whGo (fun _ _ v => leE t v) (fun _ _ v => ih v) h
  | rse c a =>
    intro x ρ ρ' h
    cases x with
    | some x => exact Tr.le_bad
    | none =>
      refine (leE a h).at_ h fun d => ?_
      split
      · split
        · exact ⟨rfl, h⟩
        · exact Tr.le_bad
      · exact Tr.le_bad
  | «try» b h ihb ihh =>
    intro x ρ ρ' v
    cases x with
    | some x => exact Tr.le_bad
    | none =>
      refine Tr.le_catch (ihb v) ?_
      rintro ⟨a, r⟩ ⟨_, r'⟩ ⟨rfl, w⟩
      exact ihh w
  | hnil => intro x ρ ρ' h; exact Tr.le_bad
  | hcons c i b r ihb ihr =>
    intro x ρ ρ' h
    cases x with
    | none => exact Tr.le_bad
    | some x =>
      cases i with
      | none =>
        show LS (es_hcons Γ c none b r (evalS Γ b) (evalS Γ r) (some x) ρ) (es_hcons Γ c none b r (evalS Γ b) (evalS Γ r) (some x) ρ')
        simp only [es_hcons]
        rw [← vle_noExc h]
        split
        · split
          · exact Tr.le_bind (Tr.le_noX (ihb h)) fun a b k => Fl.le_clr k
          · exact Tr.le_bad
        · exact ihr h
        · exact Tr.le_bad
      | some i =>
        show LS (es_hcons Γ c (some i) b r (evalS Γ b) (evalS Γ r) (some x) ρ) (es_hcons Γ c (some i) b r (evalS Γ b) (evalS Γ r) (some x) ρ')
        simp only [es_hcons]
        rw [← vle_noExc h, ← vle_len h]
        split
        · split
          · exact Tr.le_bind (Tr.le_noX (ihb (vle_set h Sv.le_refl))) fun a b k => Fl.le_off (Fl.le_clr k)
          · exact Tr.le_bad
        · exact ihr h
        · exact Tr.le_bad
  | drop e =>
    intro x ρ ρ' h
    cases x with
    | some x => exact Tr.le_bad
    | none => exact (leE e h).at_ h fun d => h
  | keep i s ih =>
    intro x ρ ρ' h
    cases x with
    | some x => exact Tr.le_bad
    | none =>
      show LS (es_keep Γ i s (evalS Γ s) none ρ) (es_keep Γ i s (evalS Γ s) none ρ')
      simp only [es_keep]
      cases e : ρ[i]? with
      | none => rw [vle_none h e]; exact ih h
      | some a =>
        obtain ⟨w, e', l⟩ := vle_get h e
        rw [e']
        rcases l with rfl | ⟨rfl, k⟩
        · cases a with
          | own ds => exact ih (vle_set h Sv.le_refl)
          | _ => exact ih h
        · cases w with
          | own ds => exact ih (vle_setR h e rfl)
          | _ => exact ih h
  | setF f e =>
    intro x ρ ρ' h
    cases x with
    | some x => exact Tr.le_bad
    | none =>
      show LS (es_setF Γ f e none ρ) (es_setF Γ f e none ρ')
      simp only [es_setF]
      split
      · rename_i c ds e1
        obtain ⟨w, e', l⟩ := vle_get h e1
        rcases l with rfl | ⟨z, _⟩
        · rw [e']
          refine (leE e h).at_ h fun d => ?_
          split
          · exact vle_set h Sv.le_refl
          · exact Tr.le_bad
        · cases z
      · exact Tr.le_bad
  | brk => intro x ρ ρ' h; cases x with | none => exact h | some x => exact Tr.le_bad
  | cnt => intro x ρ ρ' h; cases x with | none => exact h | some x => exact Tr.le_bad
  | retO i =>
    intro x ρ ρ' h
    cases x with
    | some x => exact Tr.le_bad
    | none =>
      show LS (es_retO Γ i none ρ) (es_retO Γ i none ρ')
      simp only [es_retO]
      split
      · rename_i ds e1
        obtain ⟨w, e', l⟩ := vle_get h e1
        rcases l with rfl | ⟨z, _⟩
        · rw [e']
          exact ⟨rfl, h⟩
        · cases z
      · exact Tr.le_bad
  | asgC i f sk dvs a =>
    intro x ρ ρ' h
    cases x with
    | some x => exact Tr.le_bad
    | none =>
      show LS (es_asgC Γ i f sk dvs a none ρ) (es_asgC Γ i f sk dvs a none ρ')
      simp only [es_asgC]
      rw [← vle_len h]
      split
      · refine (leE (.call f sk dvs a) h).at_ h fun d => ?_
        split
        · exact vle_set h Sv.le_refl
        · exact vle_set h Sv.le_refl
        · exact Tr.le_bad
      · exact Tr.le_bad
  | retX t a b =>
    intro x ρ ρ' h
    cases x with
    | some x => exact Tr.le_bad
    | none =>
      show LS (es_retX Γ t a b none ρ) (es_retX Γ t a b none ρ')
      simp only [es_retX]
      refine (leE t h).at_ h fun d => ?_
      split
      · split
        · refine (leE a h).at_ h fun d => ?_
          split
          · exact ⟨rfl, h⟩
          · exact Tr.le_bad
        · exact Tr.le_bad
      · refine (leE b h).at_ h fun d => ?_
        split
        · exact ⟨rfl, h⟩
        · exact Tr.le_bad
      · exact Tr.le_bad
end Ez
set_option Elab.async false
set_option linter.all false
namespace Ez
open L2 PySem PySem.W
end Ez
set_option Elab.async false
set_option linter.all false
set_option maxRecDepth 100000
namespace Ez
open PySem Tr
local macro_rules | `(tactic| walk_at "ev") => `(tactic| simp [↓bind_T, ↓bindT_ret, ↓bindT_exn, ↓bindT_bad, ↓bindT_draw, ↓mapX_ret, ↓mapX_exn, ↓mapX_bad, ↓mapX_draw, ↓noX_ret, ↓noX_exn, ↓noX_bad, ↓noX_draw, ↓catch_T, ↓catT_ret, ↓catT_exn, ↓catT_bad, ↓catT_draw, ↓E_var, ↓ev_var, ↓E_lit, ↓ev_lit, ↓E_con, ↓ev_con, ↓E_fnv, ↓ev_fnv, ↓E_clv, ↓ev_clv, ↓E_op, ↓ev_op, ↓E_neg, ↓ev_neg, ↓E_and, ↓ev_and, ↓E_or, ↓ev_or, ↓E_not, ↓ev_not, ↓E_notT, ↓ev_notT, ↓E_isN, ↓ev_isN, ↓E_notN, ↓ev_notN, ↓E_tru, ↓ev_tru, ↓E_chain, ↓ev_chain, ↓E_ifx, ↓ev_ifx, ↓E_nil, ↓ev_nil, ↓E_cons, ↓ev_cons, ↓E_tup, ↓ev_tup, ↓E_lst, ↓ev_lst, ↓E_slc, ↓ev_slc, ↓E_nop, ↓ev_nop, ↓E_part, ↓ev_part, ↓E_call, ↓ev_call, ↓E_callV, ↓ev_callV, ↓E_take, ↓ev_take, ↓E_bi, ↓ev_bi, ↓E_isi, ↓ev_isi, ↓E_isi2, ↓ev_isi2, ↓E_isC, ↓ev_isC, ↓E_eqO, ↓ev_eqO, ↓E_lc, ↓ev_lc, ↓E_yes, ↓ev_yes, ↓E_eqR, ↓ev_eqR, ↓E_xf, ↓ev_xf, ↓E_fld, ↓ev_fld, ↓E_lenO, ↓ev_lenO, ↓E_tupO, ↓ev_tupO, ↓E_lend, ↓ev_lend, ↓E_lstO, ↓ev_lstO, ↓noD_ret, ↓noD_exn, ↓noD_bad, ↓E_ixO, ↓ev_ixO, ↓S_nop, ↓es_nop, ↓S_seq, ↓es_seq, ↓S_asg, ↓es_asg, ↓S_asgO, ↓es_asgO, ↓S_par, ↓es_par, ↓S_app, ↓es_app, ↓S_setO, ↓es_setO, ↓S_ret, ↓es_ret, ↓S_retN, ↓es_retN, ↓S_ite, ↓es_ite, ↓S_for, ↓es_for, ↓S_whl, ↓es_whl, ↓S_rse, ↓es_rse, ↓S_try, ↓es_try, ↓S_hnil, ↓S_hcons, ↓es_hcons, ↓S_drop, ↓es_drop, ↓S_keep, ↓es_keep, ↓S_brk, ↓es_brk, ↓S_cnt, ↓es_cnt, ↓S_retO, ↓es_retO, ↓S_asgC, ↓es_asgC, ↓pgm_fr, ↓at_, getV, getO, isiD, D.isNon, op2, o2_add, o2_sub, o2_mul, o2_div, o2_mod, o2_lt, o2_le, o2_gt, o2_ge, o2_ix, o2_isB, o2_isnB, biD, bi_lenD, bi_absD, bi_intD, bi_listD, bi_tupleD, bi_gcd2D, bi_gcd3D, bi_min2D, bi_max2D, Fl.res, ↓runD, startD, toB, truD, optI, slcT, noExc, Sv.isExc, Fl.clr, Fl.off, Sv.clr, evalG, Tg.len, Tg.inn, wipeV, itemsOf, rngL, lcGo, forGo, pgm_call, pgm_con, pgm_fld, pgm_xf, pgm_sub, pgm_most, pgm_ok, scaV, dOf, *])
end Ez
set_option Elab.async false
set_option linter.all false
set_option maxRecDepth 100000
namespace Ez
open PySem Tr
theorem o2_ne_int {a b : Int} : o2_ne (.int a) (.int b) = .ret (.bl (!decide (a = b))) := by
  have : D.eqv (.int a) (.int b) = decide (a = b) := by
    by_cases h : a = b <;> simp [D.eqv, D.py, PyData.eqv, h]
  have c : ((D.int a).cmp && (D.int b).cmp) = true := rfl
  rw [o2_ne, if_pos c, this]
theorem o2_eq_self {d : D} (h : D.cmp d = true) : o2_eq d d = .ret (.bl true) := by
  rw [o2_eq, if_pos (by rw [h]; rfl), D.eqv_same h]
theorem o2_ne_self {d : D} (h : D.cmp d = true) : o2_ne d d = .ret (.bl false) := by
  rw [o2_ne, if_pos (by rw [h]; rfl), D.eqv_same h]; rfl
section
variable {a b c : D}
theorem ix_t10 : o2_ix (.tup [a]) (.int 0) = .ret a := rfl
theorem ix_t20 : o2_ix (.tup [a, b]) (.int 0) = .ret a := rfl
theorem ix_t21 : o2_ix (.tup [a, b]) (.int 1) = .ret b := rfl
theorem ix_t30 : o2_ix (.tup [a, b, c]) (.int 0) = .ret a := rfl
theorem ix_t31 : o2_ix (.tup [a, b, c]) (.int 1) = .ret b := rfl
theorem ix_t32 : o2_ix (.tup [a, b, c]) (.int 2) = .ret c := rfl
theorem ix_l10 : o2_ix (.lst [a]) (.int 0) = .ret a := rfl
theorem ix_l20 : o2_ix (.lst [a, b]) (.int 0) = .ret a := rfl
theorem ix_l21 : o2_ix (.lst [a, b]) (.int 1) = .ret b := rfl
theorem ix_l30 : o2_ix (.lst [a, b, c]) (.int 0) = .ret a := rfl
theorem ix_l31 : o2_ix (.lst [a, b, c]) (.int 1) = .ret b := rfl
theorem ix_l32 : o2_ix (.lst [a, b, c]) (.int 2) = .ret c := rfl
end
section
variable {hd : Prop} {ε ε' α β : Type} {P : α → Prop} {Q : β → Prop} {X Y : ε → Prop} {Z : ε' → Prop}
theorem All.mx0 {g : ε → ε'} {t : Tr ε α} (h : All hd P (fun _ => False) t) : All hd P Z (t.mapX g) := All.to_mapX (All.mono (fun _ z => z) (fun _ z => z.elim) h)
theorem All.nx0 {t : Tr ε α} (h : All hd P (fun _ => False) t) : All hd P X t.noX := All.to_noX h
end
theorem All.run {hd : Prop} {T : Text} {n f : Nat} {ds : List D} {d : Df} {ρ : Vars} {Q : D → Prop} (h : T.df f = some d) (l : ds.length = d.ps) (s : startD d ds = ρ) (k : All hd (fun fl => ∃ x ρ', fl = .rt x ρ' ∧ Q x) (fun _ => False) (evalS (T.pgm n) d.body none ρ)) (hi : T.ini f = none := by rfl) (hf : T.fr f = false := by rfl) : All hd Q (fun _ => False) (T.run (n + 1) f ds) := by
  rw [run_eq _ _ _ _ hi hf, h]
  refine All.runD l ?_
  rw [s]
  exact k
theorem goes {Γ : Pgm} {a b : SS} {ρ : Vars} {Q : Vars → Prop} {P : Fl → Prop} (h : All True (fun fl => ∃ ρ', fl = .nx ρ' ∧ Q ρ') (fun _ => False) (evalS Γ a none ρ)) (k : ∀ ρ', Q ρ' → All True P (fun _ => False) (evalS Γ b none ρ')) : All True P (fun _ => False) (evalS Γ (.seq a b) none ρ) := by
  refine All.seq (All.mono ?_ (fun _ z => z) h)
  rintro fl ⟨ρ', e, q⟩
  exact ⟨ρ', e, k ρ' q⟩
abbrev Goes (Γ : Pgm) (r : SS) (Q : Vars → Prop) (ρ : Vars) : Prop := All True (fun fl => ∃ ρ', fl = .nx ρ' ∧ Q ρ') (fun _ => False) (evalS Γ r none ρ)
theorem Goes.of {Γ : Pgm} {a : SS} {Q : Vars → Prop} {ρ : Vars} (h : ∀ P : Fl → Prop, (∀ ρ', Q ρ' → P (.nx ρ')) → All True P (fun _ => False) (evalS Γ a none ρ)) : Goes Γ a Q ρ := h _ fun ρ' q => ⟨ρ', rfl, q⟩
theorem Gives.of {Γ : Pgm} {a : SS} {Q : D → Prop} {ρ : Vars} (h : ∀ P : Fl → Prop, (∀ d ρ', Q d → P (.rt d ρ')) → All True P (fun _ => False) (evalS Γ a none ρ)) : All True (fun fl => ∃ x ρ', fl = .rt x ρ' ∧ Q x) (fun _ => False) (evalS Γ a none ρ) := h _ fun d ρ' q => ⟨d, ρ', rfl, q⟩
/-- items one by one -/
inductive Each (P : D → D → Prop) : List D → List D → Prop
  | nil : Each P [] []
  | cons {x y : D} {xs ys : List D} : P x y → Each P xs ys → Each P (x :: xs) (y :: ys)
theorem All.lcGo {hd : Prop} {f : D → Tr Xn (Option D)} {P : D → D → Prop} {X : Xn → Prop} : ∀ {l acc : List D}, (∀ x, x ∈ l → All hd (fun o => ∃ y, o = some y ∧ P x y) X (f x)) → All hd (fun d => ∃ ys, d = .lst (acc ++ ys) ∧ Each P l ys) X (lcGo f l acc)
  | [], acc, _ => ⟨[], by rw [List.append_nil], .nil⟩
  | x :: xs, acc, h => by
    refine All.bnd (h x (by simp)) ?_ (fun _ z => z)
    rintro _ ⟨y, rfl, p⟩
    refine All.mono ?_ (fun _ z => z) (All.lcGo (acc := acc ++ [y]) fun z m => h z (List.mem_cons_of_mem _ m))
    rintro d ⟨ys, rfl, q⟩
    exact ⟨y :: ys, by rw [List.append_assoc]; rfl, .cons p q⟩
/-- a list made item by item, each kept -/
theorem All.lc {hd : Prop} {Γ : Pgm} {ρ : Vars} {k : ItK} {it e : EE} {i : Nat} {d : D} {l : List D} {P : D → D → Prop} {X : Xn → Prop} (hit : evalE Γ it ρ = .ret d) (hk : itemsOf k d = some l) (hl : l.length ≤ 10000) (hi : i < ρ.length) (h : ∀ x, x ∈ l → All hd (P x) (fun _ => False) (evalE Γ e (ρ.set i (.dat x)))) :
    All hd (fun d => ∃ ys, d = .lst ys ∧ Each P l ys) X (evalE Γ (.lc k it (.name i) .yes e [i]) ρ) := by
  rw [E_lc, ev_lc, hit]
  simp only [bind_ret]
  rw [hk]
  have c : l.length ≤ 10000 ∧ Tg.inn (.name i) [i] = true := ⟨hl, by simp [Tg.inn]⟩
  simp only [if_pos c]
  refine All.mono ?_ (fun _ z => z) (All.lcGo (acc := []) (P := P) ?_)
  · rintro _ ⟨ys, rfl, q⟩; exact ⟨ys, rfl, q⟩
  · intro x m
    have g : evalG false (.name i) x (wipeV ρ [i]) = some (ρ.set i (.dat x)) := by simp [evalG, wipeV, hi]
    simp only [g]
    rw [E_yes, ev_yes]
    simp only [noX_ret, bind_ret]
    refine All.bnd (All.nx0 (h x m)) (fun y p => ⟨y, rfl, p⟩) (fun _ z => z)
theorem each3 {P : D → D → Prop} {a b c : D} {ys : List D} (h : Each P [a, b, c] ys) : ∃ x y z, ys = [x, y, z] ∧ P a x ∧ P b y ∧ P c z := by
  cases h with
  | cons p h => cases h with
    | cons q h => cases h with
      | cons r h => cases h with
        | nil => exact ⟨_, _, _, rfl, p, q, r⟩
def rests : SS → Nat → SS
  | s, 0 => s
  | .seq _ b, n + 1 => rests b n
  | s, _ => s
def firstS : SS → SS
  | .seq a _ => a
  | s => s
def bodyF : SS → SS
  | .for _ _ _ b => b
  | s => s
theorem for_rng {Γ : Pgm} {n : Int} {i : Nat} {b : SS} {ρ : Vars} (h : -10000 ≤ n ∧ n ≤ 10000) : evalS Γ (.for .rng1 (.cons (.lit (.int n)) .nil) (.name i) b) none ρ = forGo (fun x ρ => match evalG false (.name i) x ρ with | some ρ' => evalS Γ b none ρ' | none => bad) (rngL 0 n.toNat) ρ := by
  have e : evalE Γ (.cons (.lit (.int n)) .nil) ρ = .ret (.tup [.int n]) := rfl
  have g : itemsOf .rng1 (.tup [.int n]) = some (rngL 0 n.toNat) := if_pos ⟨h.1, by omega⟩
  rw [S_for, es_for, e]
  show (match itemsOf .rng1 (.tup [.int n]) with | some l => forGo _ l ρ | none => bad) = _
  rw [g]
  try rfl
theorem gone_nx {Γ : Pgm} {Q : Vars → Prop} {a : SS} {ρ : Vars} (h : All True (Fl.gone Q) (fun _ => False) (evalS Γ a none ρ)) : Goes Γ a Q ρ := by
  refine All.mono ?_ (fun _ z => z) h
  intro fl hf
  cases fl with
  | nx ρ' => exact ⟨_, rfl, hf⟩
  | _ => exact hf.elim
end Ez
set_option Elab.async false
set_option linter.all false
set_option maxRecDepth 100000
namespace Ez
open L2 PySem PyProof.Rows PySem.Spec
end Ez
set_option Elab.async false
set_option linter.all false
set_option maxRecDepth 100000
set_option maxHeartbeats 2000000
set_option Elab.async false
set_option linter.all false
set_option maxRecDepth 100000
set_option maxHeartbeats 2000000
namespace Ez
open L2 L2H PySem PyProof.Rows PySem.Spec
end Ez
set_option Elab.async false
set_option linter.all false
set_option maxRecDepth 100000
set_option maxHeartbeats 2000000
namespace Ez
open L2 L2H PySem PyProof.Rows PySem.Spec
end Ez
set_option Elab.async false
set_option linter.all false
set_option maxRecDepth 100000
namespace Ez
open L2 L2H PySem PyProof.Rows PySem.Spec
end Ez
namespace Ez
open L2 L2H PySem PyProof.Rows PySem.Spec
end Ez
namespace Ez
open L2 L2H PySem PyProof.Rows PySem.Spec
end Ez
set_option Elab.async false
set_option maxRecDepth 100000
set_option maxHeartbeats 4000000
set_option linter.all false
namespace Ez
open L2 PySem PyProof.Rows PySem.Spec
/-- a property, its getter a def of the layer -/
theorem getprop_G {X : Cx} {k : Nat} {C p g a dx : Addr} {fs : List (Str × V)} {f : Str} {fd : FuncData} {ps : List Str} {sp : Sp} {E : XK} {pins : List (Addr × Obj)} {σ : L2.St} {H : Hp} {s : Shared} {Q : VK} {b : Bool} {E' : Value → Shared → Prop}
    (I : L2.Inv X pins σ H s) (ea : H a = some (.ins C dx fs)) (c : Cls X.K C) (hp : PropOf X.K C f p g) (F : FnG X.prog X.w X.K X.mg X.base k g fd ps sp) (hr : Room (k + 1) X.A) (gs : X.A.guards = some []) (hb : Binds X.K fd ps []) (hx : Passes (L2N.CX X.prog X.w) X.nox E)
    (h : sp [.ref a] H Q E) : wpAny (model X.prog X.w) X.A (getAttr (.ref a) f b) (EP X pins σ Q) E' s := by
  obtain ⟨mA, O, _⟩ := ins_get I.hok ea
  obtain ⟨od, J, _⟩ := O.look
  obtain ⟨rest, hrec⟩ := hp.rec_
  have I1 := I.tok (s.toks + 1)
  refine PySem.W.get_bind I.kIn J (PySem.W.plainGet_of (c.get f)).1 (PySem.W.findObj_data ?_ hp.at_ hp.get hp.tak) (PySem.W.plainGet_of (c.get f)).2 (wpAny_call (PySem.W.prop_get I.kIn hrec (codeAny_mono (F.go X.A.in1 X.stack { s with toks := s.toks + 1 } H ⟨[.ref a], []⟩ [.ref a] [.ref a] Q E hr.in1 gs I1.env0.in1 ?_ (.cons rfl .nil) h) fun r s' hq => ?_)))
  · obtain ⟨cd, h1, _⟩ := PySem.W.any_some c.hd
    rw [h1]; rfl
  · refine hb { s with toks := s.toks + 1 } [.ref a] I1.kIn ?_
    have := F.size _ _ _ _ h
    simpa using this
  · match r, hq with
    | .error u, hq => exact (hx pins σ H { s with toks := s.toks + 1 } u s' (I1.wish fun _ _ => False) hq).elim
    | .ok (.ret u), hq =>
      obtain ⟨v, H', I3, rv, q⟩ := I1.after hq
      show wpAny (model X.prog X.w) X.A (handedOut u) (EP X pins σ Q) E' s'
      rw [PySem.W.handedOut_of (handed_of rv)]
      exact wpAny_pure ⟨v, H', I3, rv, q⟩
    | .ok .next, hq => exact hq.elim
    | .ok .brk, hq => exact hq.elim
    | .ok .cont, hq => exact hq.elim
theorem pe_propG {X : Cx} {k : Nat} {C p g : Addr} {f : Str} {fd : FuncData} {ps : List Str} {sp : Sp} {E : XK} {e : Expr} {pos : Pos} {ta : TE} (he : PE X e ta) (c : Cls X.K C) (hp : PropOf X.K C f p g) (F : FnG X.prog X.w X.K X.mg X.base k g fd ps sp) (hr : Room (k + 1) X.A) (gs : X.A.guards = some []) (hb : Binds X.K fd ps []) (hx : Passes (L2N.CX X.prog X.w) X.nox E)
    (hab : attributeBase e f X.env (eval e X.env) = eval e X.env := by rfl) : PE X (.Attribute e f pos) (tProp C sp [] E ta) := by
  refine ⟨fun pins s σ H Q I h => attr_of hab (thn (he.run pins s σ H _ I h) fun u s1 ⟨x, H1, I1, rx, q⟩ => ?_)⟩
  obtain ⟨a, dx, fs, rfl, ea, q⟩ := q
  cases rx
  exact getprop_G I1 ea c hp F hr gs hb hx q
end Ez
namespace Ez
open L2 PySem PyProof.Rows PySem.Spec
theorem pe_propK {X : Cx} {k : Nat} {C p g : Addr} {f : Str} {fd : FuncData} {ps : List Str} {sp : Sp} {e : Expr} {pos : Pos} {ta : TE} (he : PE X e ta) (c : Cls X.K C) (hp : PropOf X.K C f p g) (F : FnG X.prog X.w X.K X.mg X.base k g fd ps sp) (hr : Room (k + 1) X.A) (gs : X.A.guards = some []) (hb : Binds X.K fd ps [])
    (hab : attributeBase e f X.env (eval e X.env) = eval e X.env := by rfl) : PE X (.Attribute e f pos) (tProp C sp [] E0 ta) := pe_propG he c hp F hr gs hb (fun pins σ H s u s2 I h => by
  obtain ⟨_, _, _, _, _, _, _, _, _, _, _, _, z⟩ := h
  exact z.elim) hab
end Ez
set_option Elab.async false
set_option linter.all false
set_option maxRecDepth 100000
set_option maxHeartbeats 3999999
namespace K02
open L2 L2H PySem PyProof.Rows PySem.Spec Ez
variable {Pg : Program} {w : World} {K : PySem.W.Frag} {mg : Str → Option Value} {base : Heap} {ad : Ad}
structure AllOk (Pg : Program) (w : World) (K : PySem.W.Frag) (mg : Str → Option Value) (base : Heap) (ad : Ad) (n : Nat) : Prop where
  take : FnG Pg w K mg base (2 * n + 2) ad.f__law_take ad.fd__law_take ["_law_hand_here", "_law_many"] (spTake (kt K ad))
  is_whole : FnG Pg w K mg base (2 * n + 2) ad.f_is_whole ad.fd_is_whole ["thing", "low", "high"] (spR (kt K ad) tx n 0)
  is_sequence : FnG Pg w K mg base (2 * n + 2) ad.f_is_sequence ad.fd_is_sequence ["thing", "low", "high"] (spR (kt K ad) tx n 1)
  check_face : FnG Pg w K mg base (2 * n + 2) ad.f_check_face ad.fd_check_face ["face"] (spR (kt K ad) tx n 2)
  check_corner : FnG Pg w K mg base (2 * n + 2) ad.f_check_corner ad.fd_check_corner ["corner"] (spR (kt K ad) tx n 3)
  corner_bit : FnG Pg w K mg base (2 * n + 2) ad.f_corner_bit ad.fd_corner_bit ["corner", "axis"] (spR (kt K ad) tx n 4)
  corner_numbers : FnG Pg w K mg base (2 * n + 2) ad.f_corner_numbers ad.fd_corner_numbers ["box", "corner"] (spR (kt K ad) tx n 5)
  face_axes : FnG Pg w K mg base (2 * n + 2) ad.f_face_axes ad.fd_face_axes ["face"] (spR (kt K ad) tx n 6)
  are_beside : FnG Pg w K mg base (2 * n + 2) ad.f_are_beside ad.fd_are_beside ["face", "other"] (spR (kt K ad) tx n 7)
  faces_beside : FnG Pg w K mg base (2 * n + 2) ad.f_faces_beside ad.fd_faces_beside ["face"] (spR (kt K ad) tx n 8)
  faces_of_corner : FnG Pg w K mg base (2 * n + 2) ad.f_faces_of_corner ad.fd_faces_of_corner ["corner"] (spR (kt K ad) tx n 9)
  all_edges : FnG Pg w K mg base (2 * n + 2) ad.f_all_edges ad.fd_all_edges [] (spR (kt K ad) tx n 10)
  check_edge : FnG Pg w K mg base (2 * n + 2) ad.f_check_edge ad.fd_check_edge ["edge"] (spR (kt K ad) tx n 11)
  faces_of_edge : FnG Pg w K mg base (2 * n + 2) ad.f_faces_of_edge ad.fd_faces_of_edge ["edge"] (spR (kt K ad) tx n 12)
  edge_between : FnG Pg w K mg base (2 * n + 2) ad.f_edge_between ad.fd_edge_between ["face", "beside"] (spR (kt K ad) tx n 13)
  edge_ends : FnG Pg w K mg base (2 * n + 2) ad.f_edge_ends ad.fd_edge_ends ["face", "beside"] (spR (kt K ad) tx n 14)
  _law_axes : FnG Pg w K mg base (2 * n + 2) ad.f__law_axes ad.fd__law_axes ["_law_face"] (spR (kt K ad) tx n 18)
  _law_tuples : FnG Pg w K mg base (2 * n + 2) ad.f__law_tuples ad.fd__law_tuples ["_law_thing"] (spR (kt K ad) tx n 19)
  _law_odd : FnG Pg w K mg base (2 * n + 2) ad.f__law_odd ad.fd__law_odd ["_law_hand_here", "_law_high"] (spR (kt K ad) tx n 20)
  _law_rid : FnG Pg w K mg base (2 * n + 2) ad.f__law_rid ad.fd__law_rid ["_law_hand_here"] (spR (kt K ad) tx n 21)
  _law_whole : FnG Pg w K mg base (2 * n + 2) ad.f__law_whole ad.fd__law_whole ["_law_thing", "_law_low", "_law_high"] (spR (kt K ad) tx n 22)
  _law_bits : FnG Pg w K mg base (2 * n + 2) ad.f__law_bits ad.fd__law_bits ["_law_corner"] (spR (kt K ad) tx n 23)
  _law_shaped : FnG Pg w K mg base (2 * n + 2) ad.f__law_shaped ad.fd__law_shaped ["_law_hand_here", "_law_items"] (spR (kt K ad) tx n 24)
  _law_box : FnG Pg w K mg base (2 * n + 2) ad.f__law_box ad.fd__law_box ["_law_sides"] (spR (kt K ad) tx n 25)
  _law_asked : FnG Pg w K mg base (2 * n + 2) ad.f__law_asked ad.fd__law_asked ["_law_deed", "_law_thing"] (spR (kt K ad) tx n 26)
  _law_between : FnG Pg w K mg base (2 * n + 2) ad.f__law_between ad.fd__law_between ["_law_deed", "_law_one", "_law_other"] (spR (kt K ad) tx n 27)
  _law_plain : FnG Pg w K mg base (2 * n + 2) ad.f__law_plain ad.fd__law_plain ["_law_thing"] (spR (kt K ad) tx n 28)
  _law_like : FnG Pg w K mg base (2 * n + 2) ad.f__law_like ad.fd__law_like ["_law_one", "_law_other"] (spR (kt K ad) tx n 29)
  _law_faces : FnG Pg w K mg base (2 * n + 2) ad.f__law_faces ad.fd__law_faces ["_law_hand_here"] (spR (kt K ad) tx n 30)
  _law_edges : FnG Pg w K mg base (2 * n + 2) ad.f__law_edges ad.fd__law_edges ["_law_hand_here"] (spR (kt K ad) tx n 31)
  _law_spoilt : FnG Pg w K mg base (2 * n + 2) ad.f__law_spoilt ad.fd__law_spoilt ["_law_hand_here", "_law_sides"] (spR (kt K ad) tx n 32)
  Box___init__ : FnG Pg w K mg base (2 * n + 2) ad.f_Box___init__ ad.fd_Box___init__ ["self", "sides"] (spRI (kt K ad) tx n 6 34)
  Box___eq__ : FnG Pg w K mg base (2 * n + 2) ad.f_Box___eq__ ad.fd_Box___eq__ ["self", "other"] (spR (kt K ad) tx n 35)
  Box_skin_area : FnG Pg w K mg base (2 * n + 2) ad.f_Box_skin_area ad.fd_Box_skin_area ["self"] (spR (kt K ad) tx n 36)
  Box_corner_places : FnG Pg w K mg base (2 * n + 2) ad.f_Box_corner_places ad.fd_Box_corner_places ["self"] (spR (kt K ad) tx n 37)
  any : ∀ f, tx.ok f = true → ∃ (fd : FuncData) (ps : List Str), FnG Pg w K mg base (2 * n + 2) ((kt K ad).fn f) fd ps (spR (kt K ad) tx n f) ∧ PySem.W.keepIn K (.ref ((kt K ad).fn f)) = true ∧ Binds K fd ps []
theorem ok_is_whole (T : Txt K mg ad) {n : Nat} (I : AllOk Pg w K mg base ad n) : FnG Pg w K mg base (2 * (n + 1) + 2) ad.f_is_whole ad.fd_is_whole ["thing", "low", "high"] (spR (kt K ad) tx (n + 1) 0) := by
  refine fn_RD (txok T) rfl T.F_is_whole sc_is_whole rfl rfl rfl fun cdv A outer s H E gs hr => ?_
  refine of_ex ⟨_, (pss_cons (ps_if (pw_or (pt_val (pe_callB (call_isiK (K := (kt K ad).K) rfl) (by rfl) T.b_isinstance (by decide +kernel) (pa_cons (pv 0) (pa_cons (pe_bltn (v := .ty "bool") (by rfl) T.b_bool (by decide +kernel) rfl) pa_nil)))) (pw_or1 (pt_not (pt_val (pe_callB (call_isiK (K := (kt K ad).K) rfl) (by rfl) T.b_isinstance (by decide +kernel) (pa_cons (pv 0) (pa_cons (pe_bltn (v := .ty "int") (by rfl) T.b_int (by decide +kernel) rfl) pa_nil))))))).pt (pss_one (ps_ret pe_bl)) pss_nil)
      (pss_cons (ps_if (pw_and (pt_cmp (pc_notN (pv 1))) (pw_and1 (pt_cmpR op_lt (pv 0) (pv 1) (nomark _)))).pt (pss_one (ps_ret pe_bl)) pss_nil)
      (pss_one (ps_ret (pe_or (pe_cmp (pc_isN (pv 2))) (Ez.pe_or1 (pe_cmpR op_le (pv 0) (pv 2) (nomark _)))))))), ?_⟩
  show _ = (denS (dn (kt K ad) tx (con ad) n E) b_is_whole).ts
  unfold b_is_whole
  simp only [denS, den, denGp, denI, denB, den2, Dn.of, Dn.wt, cond] <;> rfl
theorem ok_is_sequence (T : Txt K mg ad) {n : Nat} (I : AllOk Pg w K mg base ad n) : FnG Pg w K mg base (2 * (n + 1) + 2) ad.f_is_sequence ad.fd_is_sequence ["thing", "low", "high"] (spR (kt K ad) tx (n + 1) 1) := by
  refine fn_R (txok T) rfl T.F_is_sequence sc_is_sequence rfl rfl rfl fun cdv A outer s H E gs hr => ?_
  refine of_ex ⟨_, (pss_one (ps_ret (pe_and (pe_callB (call_isiTK (K := (kt K ad).K) rfl) (by rfl) T.b_isinstance (by decide +kernel) (pa_cons (pv 0) (pa_cons (pe_tup (pa_cons (pe_bltn (v := .ty "list") (by rfl) T.b_list (by decide +kernel) rfl) (pa_cons (pe_bltn (v := .ty "tuple") (by rfl) T.b_tuple (by decide +kernel) rfl) pa_nil))) pa_nil))) (Ez.pe_and1 (pe_chain op_le op_le (pv 1) (pe_callB (call_lenK (K := (kt K ad).K) rfl) (by rfl) T.b_len (by decide +kernel) (pa_cons (pv 0) pa_nil)) (pv 2)))))), ?_⟩
  show _ = (denS (dn (kt K ad) tx (con ad) n E) b_is_sequence).ts
  unfold b_is_sequence
  simp only [denS, den, denGp, denI, denB, den2, Dn.of, Dn.wt, cond] <;> rfl
theorem ok_check_face (T : Txt K mg ad) {n : Nat} (I : AllOk Pg w K mg base ad n) : FnG Pg w K mg base (2 * (n + 1) + 2) ad.f_check_face ad.fd_check_face ["face"] (spR (kt K ad) tx (n + 1) 2) := by
  obtain ⟨_, dv_is_whole_3, bd_is_whole_3⟩ := T.bd_is_whole_3
  refine fn_R (txok T) rfl T.F_check_face sc_check_face rfl rfl rfl fun cdv A outer s H E gs hr => ?_
  refine of_ex ⟨_, (pss_cons (ps_if (pt_not (pt_val (pe_callGS (E := (Snk.out E).at) I.is_whole (hr.mono (by omega)) gs (by rfl) T.m_is_whole T.k_is_whole bd_is_whole_3 dv_is_whole_3 (px_out (L2N.takes_of rfl rfl rfl rfl)) (pa_cons (pv 0) (pa_cons pe_int (pa_cons pe_int pa_nil)))))) (pss_one (L2N.ps_raise rfl (L2N.takes_of rfl rfl rfl rfl) (pmk_oexN T.o_BadFace T.i_BadFace T.t_BadFace (init_BadFace T) (hr.mono (by omega)) T.bi_BadFace .nil pass0 (by rfl) T.m_BadFace (pa_cons (pv 0) pa_nil)))) pss_nil)
      (pss_one (ps_ret (pv 0)))), ?_⟩
  show _ = (denS (dn (kt K ad) tx (con ad) n E) b_check_face).ts
  unfold b_check_face
  simp only [denS, den, denGp, denI, denB, den2, Dn.of, Dn.wt, cond] <;> rfl
theorem ok_check_corner (T : Txt K mg ad) {n : Nat} (I : AllOk Pg w K mg base ad n) : FnG Pg w K mg base (2 * (n + 1) + 2) ad.f_check_corner ad.fd_check_corner ["corner"] (spR (kt K ad) tx (n + 1) 3) := by
  obtain ⟨_, dv_is_whole_3, bd_is_whole_3⟩ := T.bd_is_whole_3
  refine fn_R (txok T) rfl T.F_check_corner sc_check_corner rfl rfl rfl fun cdv A outer s H E gs hr => ?_
  refine of_ex ⟨_, (pss_cons (ps_if (pt_not (pt_val (pe_callGS (E := (Snk.out E).at) I.is_whole (hr.mono (by omega)) gs (by rfl) T.m_is_whole T.k_is_whole bd_is_whole_3 dv_is_whole_3 (px_out (L2N.takes_of rfl rfl rfl rfl)) (pa_cons (pv 0) (pa_cons pe_int (pa_cons pe_int pa_nil)))))) (pss_one (L2N.ps_raise rfl (L2N.takes_of rfl rfl rfl rfl) (pmk_oexN T.o_BadCorner T.i_BadCorner T.t_BadCorner (init_BadCorner T) (hr.mono (by omega)) T.bi_BadCorner .nil pass0 (by rfl) T.m_BadCorner (pa_cons (pv 0) pa_nil)))) pss_nil)
      (pss_one (ps_ret (pv 0)))), ?_⟩
  show _ = (denS (dn (kt K ad) tx (con ad) n E) b_check_corner).ts
  unfold b_check_corner
  simp only [denS, den, denGp, denI, denB, den2, Dn.of, Dn.wt, cond] <;> rfl
theorem ok_corner_bit (T : Txt K mg ad) {n : Nat} (I : AllOk Pg w K mg base ad n) : FnG Pg w K mg base (2 * (n + 1) + 2) ad.f_corner_bit ad.fd_corner_bit ["corner", "axis"] (spR (kt K ad) tx (n + 1) 4) := by
  refine fn_R (txok T) rfl T.F_corner_bit sc_corner_bit rfl rfl rfl fun cdv A outer s H E gs hr => ?_
  refine of_ex ⟨_, (pss_one (ps_ret (pe_op op_and (pe_op op_shr (pv 0) (pe_op op_sub pe_int (pv 1))) pe_int))), ?_⟩
  show _ = (denS (dn (kt K ad) tx (con ad) n E) b_corner_bit).ts
  unfold b_corner_bit
  simp only [denS, den, denGp, denI, denB, den2, Dn.of, Dn.wt, cond] <;> rfl
theorem ok_corner_numbers (T : Txt K mg ad) {n : Nat} (I : AllOk Pg w K mg base ad n) : FnG Pg w K mg base (2 * (n + 1) + 2) ad.f_corner_numbers ad.fd_corner_numbers ["box", "corner"] (spR (kt K ad) tx (n + 1) 5) := by
  refine fn_R (txok T) rfl T.F_corner_numbers sc_corner_numbers rfl rfl rfl fun cdv A outer s H E gs hr => ?_
  refine of_ex ⟨_, (pss_one (ps_ret (pe_callTy (T := "tuple") (call_tupK (K := (kt K ad).K) rfl) (by rfl) T.b_tuple (by decide +kernel) (pa_cons (pe_lc (own := [("axis", 2), ("side", 3)]) (by rfl) sc_corner_numbers.nd (pi_enumK (K := (kt K ad).K) rfl (by rfl) T.b_enumerate (pa_cons (pe_fldK (K := (kt K ad).K) rfl (pv 0)) pa_nil)) (blkOk_by (N := ["box", "corner", "axis", "side"]) (sc := defScope s_corner_numbers) (own := [("axis", 2), ("side", 3)]) (by decide +kernel)) (fun _ _ _ _ _ => (pg_seqK (K := (kt K ad).K) rfl (n := 2) rfl (pgs_cons (pg_name (i := 2) sc_corner_numbers.nd rfl (by first | exact Or.inl rfl | exact Or.inr rfl)) (pgs_cons (pg_name (i := 3) sc_corner_numbers.nd rfl (by first | exact Or.inl rfl | exact Or.inr rfl)) pgs_nil)))) (fun _ _ _ _ _ => pts_nil) (fun _ _ _ _ _ => (pe_op (op_mulK (K := (kt K ad).K) rfl) (pv 3) (pe_callGS (E := Snk.no.at) I.corner_bit (hr.mono (by omega)) gs (by rfl) T.m_corner_bit T.k_corner_bit T.b_corner_bit .nil px_no (pa_cons (pv 1) (pa_cons (pv 2) pa_nil)))))) pa_nil)))), ?_⟩
  show _ = (denS (dn (kt K ad) tx (con ad) n E) b_corner_numbers).ts
  unfold b_corner_numbers
  simp only [denS, den, denGp, denI, denB, den2, Dn.of, Dn.wt, cond] <;> rfl
theorem ok_face_axes (T : Txt K mg ad) {n : Nat} (I : AllOk Pg w K mg base ad n) : FnG Pg w K mg base (2 * (n + 1) + 2) ad.f_face_axes ad.fd_face_axes ["face"] (spR (kt K ad) tx (n + 1) 6) := by
  refine fn_R (txok T) rfl T.F_face_axes sc_face_axes rfl rfl rfl fun cdv A outer s H E gs hr => ?_
  refine of_ex ⟨_, (pss_one (ps_ret (pe_ix (ix_seqK (K := (kt K ad).K) rfl) (pe_glob (v := .ref _) (by rfl) T.m_FACE_AXES rfl) (pe_callGS (E := (Snk.out E).at) I.check_face (hr.mono (by omega)) gs (by rfl) T.m_check_face T.k_check_face T.b_check_face .nil (px_out (L2N.takes_of rfl rfl rfl rfl)) (pa_cons (pv 0) pa_nil)) (fun _ _ => rfl)))), ?_⟩
  show _ = (denS (dn (kt K ad) tx (con ad) n E) b_face_axes).ts
  unfold b_face_axes
  simp only [denS, den, denGp, denI, denB, den2, Dn.of, Dn.wt, cond] <;> rfl
theorem ok_are_beside (T : Txt K mg ad) {n : Nat} (I : AllOk Pg w K mg base ad n) : FnG Pg w K mg base (2 * (n + 1) + 2) ad.f_are_beside ad.fd_are_beside ["face", "other"] (spR (kt K ad) tx (n + 1) 7) := by
  refine fn_R (txok T) rfl T.F_are_beside sc_are_beside rfl rfl rfl fun cdv A outer s H E gs hr => ?_
  refine of_ex ⟨_, (pss_one (ps_ret (pe_cmpR (op_neK (K := (kt K ad).K) rfl (Ez.hu64 hr)) (pe_op op_fdivZ (pe_callGS (E := (Snk.out E).at) I.check_face (hr.mono (by omega)) gs (by rfl) T.m_check_face T.k_check_face T.b_check_face .nil (px_out (L2N.takes_of rfl rfl rfl rfl)) (pa_cons (pv 0) pa_nil)) pe_int) (pe_op op_fdivZ (pe_callGS (E := (Snk.out E).at) I.check_face (hr.mono (by omega)) gs (by rfl) T.m_check_face T.k_check_face T.b_check_face .nil (px_out (L2N.takes_of rfl rfl rfl rfl)) (pa_cons (pv 1) pa_nil)) pe_int) (nomark _)))), ?_⟩
  show _ = (denS (dn (kt K ad) tx (con ad) n E) b_are_beside).ts
  unfold b_are_beside
  simp only [denS, den, denGp, denI, denB, den2, Dn.of, Dn.wt, cond] <;> rfl
theorem ok_faces_beside (T : Txt K mg ad) {n : Nat} (I : AllOk Pg w K mg base ad n) : FnG Pg w K mg base (2 * (n + 1) + 2) ad.f_faces_beside ad.fd_faces_beside ["face"] (spR (kt K ad) tx (n + 1) 8) := by
  refine fn_R (txok T) rfl T.F_faces_beside sc_faces_beside rfl rfl rfl fun cdv A outer s H E gs hr => ?_
  refine of_ex ⟨_, (pss_cons (ps_expr (pe_callGS (E := (Snk.out E).at) I.check_face (hr.mono (by omega)) gs (by rfl) T.m_check_face T.k_check_face T.b_check_face .nil (px_out (L2N.takes_of rfl rfl rfl rfl)) (pa_cons (pv 0) pa_nil)))
      (pss_one (ps_ret (pe_callTy (T := "tuple") (call_tupK (K := (kt K ad).K) rfl) (by rfl) T.b_tuple (by decide +kernel) (pa_cons (pe_lc (own := [("other", 1)]) (by rfl) sc_faces_beside.nd (pi_range1 (by rfl) T.b_range (pa_cons pe_int pa_nil)) (blkOk_by (N := ["face", "other"]) (sc := defScope s_faces_beside) (own := [("other", 1)]) (by decide +kernel)) (fun _ _ _ _ _ => (pg_name (i := 1) sc_faces_beside.nd rfl (by first | exact Or.inl rfl | exact Or.inr rfl))) (fun _ _ _ _ _ => pts_one (pt_cmpR (op_neK (K := (kt K ad).K) rfl (Ez.hu64 hr)) (pe_op op_fdivZ (pv 1) pe_int) (pe_op op_fdivZ (pv 0) pe_int) (nomark _))) (fun _ _ _ _ _ => (pv 1))) pa_nil))))), ?_⟩
  show _ = (denS (dn (kt K ad) tx (con ad) n E) b_faces_beside).ts
  unfold b_faces_beside
  simp only [denS, den, denGp, denI, denB, den2, Dn.of, Dn.wt, cond] <;> rfl
theorem ok_faces_of_corner (T : Txt K mg ad) {n : Nat} (I : AllOk Pg w K mg base ad n) : FnG Pg w K mg base (2 * (n + 1) + 2) ad.f_faces_of_corner ad.fd_faces_of_corner ["corner"] (spR (kt K ad) tx (n + 1) 9) := by
  refine fn_R (txok T) rfl T.F_faces_of_corner sc_faces_of_corner rfl rfl rfl fun cdv A outer s H E gs hr => ?_
  refine of_ex ⟨_, (pss_cons (ps_expr (pe_callGS (E := (Snk.out E).at) I.check_corner (hr.mono (by omega)) gs (by rfl) T.m_check_corner T.k_check_corner T.b_check_corner .nil (px_out (L2N.takes_of rfl rfl rfl rfl)) (pa_cons (pv 0) pa_nil)))
      (pss_one (ps_ret (pe_callTy (T := "tuple") (call_tupK (K := (kt K ad).K) rfl) (by rfl) T.b_tuple (by decide +kernel) (pa_cons (pe_lc (own := [("axis", 1)]) (by rfl) sc_faces_of_corner.nd (pi_range1 (by rfl) T.b_range (pa_cons pe_int pa_nil)) (blkOk_by (N := ["corner", "axis"]) (sc := defScope s_faces_of_corner) (own := [("axis", 1)]) (by decide +kernel)) (fun _ _ _ _ _ => (pg_name (i := 1) sc_faces_of_corner.nd rfl (by first | exact Or.inl rfl | exact Or.inr rfl))) (fun _ _ _ _ _ => pts_nil) (fun _ _ _ _ _ => (pe_op (op_addK (K := (kt K ad).K) rfl) (pe_op (op_mulK (K := (kt K ad).K) rfl) pe_int (pv 1)) (pe_callGS (E := Snk.no.at) I.corner_bit (hr.mono (by omega)) gs (by rfl) T.m_corner_bit T.k_corner_bit T.b_corner_bit .nil px_no (pa_cons (pv 0) (pa_cons (pv 1) pa_nil)))))) pa_nil))))), ?_⟩
  show _ = (denS (dn (kt K ad) tx (con ad) n E) b_faces_of_corner).ts
  unfold b_faces_of_corner
  simp only [denS, den, denGp, denI, denB, den2, Dn.of, Dn.wt, cond] <;> rfl
theorem ok_all_edges (T : Txt K mg ad) {n : Nat} (I : AllOk Pg w K mg base ad n) : FnG Pg w K mg base (2 * (n + 1) + 2) ad.f_all_edges ad.fd_all_edges [] (spR (kt K ad) tx (n + 1) 10) := by
  refine fn_R (txok T) rfl T.F_all_edges sc_all_edges rfl rfl rfl fun cdv A outer s H E gs hr => ?_
  refine of_ex ⟨_, (pss_one (ps_ret (pe_callTy (T := "tuple") (call_tupK (K := (kt K ad).K) rfl) (by rfl) T.b_tuple (by decide +kernel) (pa_cons (pe_lc2 (own := [("low", 0), ("high", 1)]) (vs1 := [1]) (by rfl) sc_all_edges.nd (pi_range1 (by rfl) T.b_range (pa_cons pe_int pa_nil)) (blkOk_by (N := ["low", "high"]) (sc := defScope s_all_edges) (own := [("low", 0), ("high", 1)]) (by decide +kernel)) (by decide) (fun _ _ _ _ _ => (pg_name (i := 0) sc_all_edges.nd rfl (by first | exact Or.inl rfl | exact Or.inr rfl))) (fun _ _ _ _ _ => pts_nil) (fun _ _ _ _ _ => (pi_range2 (by rfl) T.b_range (pa_cons (pe_op (op_addK (K := (kt K ad).K) rfl) (pv 0) pe_int) (pa_cons pe_int pa_nil)))) (fun _ _ _ _ _ => (pg_name (i := 1) sc_all_edges.nd rfl (by first | exact Or.inl rfl | exact Or.inr rfl))) (fun _ _ _ _ _ => pts_one (pt_cmpR (op_inK (K := (kt K ad).K) rfl (hu65 hr)) (pe_op op_xor (pv 0) (pv 1)) (pe_tup (pa_cons pe_int (pa_cons pe_int (pa_cons pe_int pa_nil)))) rfl)) (fun _ _ _ _ _ => (pe_tup (pa_cons (pv 0) (pa_cons (pv 1) pa_nil))))) pa_nil)))), ?_⟩
  show _ = (denS (dn (kt K ad) tx (con ad) n E) b_all_edges).ts
  unfold b_all_edges
  simp only [denS, den, denGp, denI, denB, den2, Dn.of, Dn.wt, cond] <;> rfl
theorem ok_check_edge (T : Txt K mg ad) {n : Nat} (I : AllOk Pg w K mg base ad n) : FnG Pg w K mg base (2 * (n + 1) + 2) ad.f_check_edge ad.fd_check_edge ["edge"] (spR (kt K ad) tx (n + 1) 11) := by
  obtain ⟨_, dv_is_whole_3, bd_is_whole_3⟩ := T.bd_is_whole_3
  refine fn_R (txok T) rfl T.F_check_edge sc_check_edge rfl rfl rfl fun cdv A outer s H E gs hr => ?_
  refine of_ex ⟨_, (pss_cons (ps_if (pt_not (pt_val (pe_callGS (E := (Snk.out E).at) I.is_sequence (hr.mono (by omega)) gs (by rfl) T.m_is_sequence T.k_is_sequence T.b_is_sequence .nil (px_out (L2N.takes_of rfl rfl rfl rfl)) (pa_cons (pv 0) (pa_cons pe_int (pa_cons pe_int pa_nil)))))) (pss_one (L2N.ps_raise rfl (L2N.takes_of rfl rfl rfl rfl) (pmk_oexN T.o_BadEdge T.i_BadEdge T.t_BadEdge (init_BadEdge T) (hr.mono (by omega)) T.bi_BadEdge .nil pass0 (by rfl) T.m_BadEdge (pa_cons (pv 0) pa_nil)))) pss_nil)
      (pss_cons (ps_asg (pv 0) (pg_seqK (K := (kt K ad).K) rfl (n := 2) rfl (pgs_cons (pg_name (i := 1) sc_check_edge.nd rfl (by first | exact Or.inl rfl | exact Or.inr rfl)) (pgs_cons (pg_name (i := 2) sc_check_edge.nd rfl (by first | exact Or.inl rfl | exact Or.inr rfl)) pgs_nil))))
      (pss_cons (ps_if (pw_or (pt_not (pt_val (pe_callGS (E := (Snk.out E).at) I.is_whole (hr.mono (by omega)) gs (by rfl) T.m_is_whole T.k_is_whole bd_is_whole_3 dv_is_whole_3 (px_out (L2N.takes_of rfl rfl rfl rfl)) (pa_cons (pv 1) (pa_cons pe_int (pa_cons pe_int pa_nil)))))) (pw_or (pt_not (pt_val (pe_callGS (E := (Snk.out E).at) I.is_whole (hr.mono (by omega)) gs (by rfl) T.m_is_whole T.k_is_whole bd_is_whole_3 dv_is_whole_3 (px_out (L2N.takes_of rfl rfl rfl rfl)) (pa_cons (pv 2) (pa_cons pe_int (pa_cons pe_int pa_nil)))))) (pw_or1 (pt_cmpR (op_notInK (K := (kt K ad).K) rfl (hu65 hr)) (pe_op op_xor (pv 1) (pv 2)) (pe_tup (pa_cons pe_int (pa_cons pe_int (pa_cons pe_int pa_nil)))) rfl)))).pt (pss_one (L2N.ps_raise rfl (L2N.takes_of rfl rfl rfl rfl) (pmk_oexN T.o_BadEdge T.i_BadEdge T.t_BadEdge (init_BadEdge T) (hr.mono (by omega)) T.bi_BadEdge .nil pass0 (by rfl) T.m_BadEdge (pa_cons (pv 0) pa_nil)))) pss_nil)
      (pss_one (ps_ret (pe_tup (pa_cons (pe_callB (cr_min2K (K := (kt K ad).K) rfl rfl (Ez.hu64 hr)) (by rfl) T.b_min (by decide +kernel) (pa_cons (pv 1) (pa_cons (pv 2) pa_nil))) (pa_cons (pe_callB (call_max2 rfl) (by rfl) T.b_max (by decide +kernel) (pa_cons (pv 1) (pa_cons (pv 2) pa_nil))) pa_nil)))))))), ?_⟩
  show _ = (denS (dn (kt K ad) tx (con ad) n E) b_check_edge).ts
  unfold b_check_edge
  simp only [denS, den, denGp, denI, denB, den2, Dn.of, Dn.wt, cond] <;> rfl
theorem ok_faces_of_edge (T : Txt K mg ad) {n : Nat} (I : AllOk Pg w K mg base ad n) : FnG Pg w K mg base (2 * (n + 1) + 2) ad.f_faces_of_edge ad.fd_faces_of_edge ["edge"] (spR (kt K ad) tx (n + 1) 12) := by
  refine fn_R (txok T) rfl T.F_faces_of_edge sc_faces_of_edge rfl rfl rfl fun cdv A outer s H E gs hr => ?_
  refine of_ex ⟨_, (pss_cons (ps_asg (pe_callGS (E := (Snk.out E).at) I.check_edge (hr.mono (by omega)) gs (by rfl) T.m_check_edge T.k_check_edge T.b_check_edge .nil (px_out (L2N.takes_of rfl rfl rfl rfl)) (pa_cons (pv 0) pa_nil)) (pg_seqK (K := (kt K ad).K) rfl (n := 2) rfl (pgs_cons (pg_name (i := 1) sc_faces_of_edge.nd rfl (by first | exact Or.inl rfl | exact Or.inr rfl)) (pgs_cons (pg_name (i := 2) sc_faces_of_edge.nd rfl (by first | exact Or.inl rfl | exact Or.inr rfl)) pgs_nil))))
      (pss_one (ps_ret (pe_callTy (T := "tuple") (call_tupK (K := (kt K ad).K) rfl) (by rfl) T.b_tuple (by decide +kernel) (pa_cons (pe_lc (own := [("face", 3)]) (by rfl) sc_faces_of_edge.nd (pi_seqK (K := (kt K ad).K) rfl (pe_callGS (E := (Snk.out E).at) I.faces_of_corner (hr.mono (by omega)) gs (by rfl) T.m_faces_of_corner T.k_faces_of_corner T.b_faces_of_corner .nil (px_out (L2N.takes_of rfl rfl rfl rfl)) (pa_cons (pv 1) pa_nil))) (blkOk_by (N := ["edge", "low", "high", "face"]) (sc := defScope s_faces_of_edge) (own := [("face", 3)]) (by decide +kernel)) (fun _ _ _ _ _ => (pg_name (i := 3) sc_faces_of_edge.nd rfl (by first | exact Or.inl rfl | exact Or.inr rfl))) (fun _ _ _ _ _ => pts_one (pt_cmpR (op_inK (K := (kt K ad).K) rfl (hu65 hr)) (pv 3) (pe_callGS (E := Snk.no.at) I.faces_of_corner (hr.mono (by omega)) gs (by rfl) T.m_faces_of_corner T.k_faces_of_corner T.b_faces_of_corner .nil px_no (pa_cons (pv 2) pa_nil)) rfl)) (fun _ _ _ _ _ => (pv 3))) pa_nil))))), ?_⟩
  show _ = (denS (dn (kt K ad) tx (con ad) n E) b_faces_of_edge).ts
  unfold b_faces_of_edge
  simp only [denS, den, denGp, denI, denB, den2, Dn.of, Dn.wt, cond] <;> rfl
theorem ok_edge_between (T : Txt K mg ad) {n : Nat} (I : AllOk Pg w K mg base ad n) : FnG Pg w K mg base (2 * (n + 1) + 2) ad.f_edge_between ad.fd_edge_between ["face", "beside"] (spR (kt K ad) tx (n + 1) 13) := by
  refine fn_R (txok T) rfl T.F_edge_between sc_edge_between rfl rfl rfl fun cdv A outer s H E gs hr => ?_
  refine of_ex ⟨_, (pss_cons (ps_if (pt_not (pt_val (pe_callGS (E := (Snk.out E).at) I.are_beside (hr.mono (by omega)) gs (by rfl) T.m_are_beside T.k_are_beside T.b_are_beside .nil (px_out (L2N.takes_of rfl rfl rfl rfl)) (pa_cons (pv 0) (pa_cons (pv 1) pa_nil))))) (pss_one (L2N.ps_raise rfl (L2N.takes_of rfl rfl rfl rfl) (pmk_oexN T.o_NoEdge T.i_NoEdge T.t_NoEdge (init_NoEdge T) (hr.mono (by omega)) T.bi_NoEdge .nil pass0 (by rfl) T.m_NoEdge (pa_cons (pv 0) (pa_cons (pv 1) pa_nil))))) pss_nil)
      (pss_cons (ps_asg (pe_callGS (E := (Snk.out E).at) I.edge_ends (hr.mono (by omega)) gs (by rfl) T.m_edge_ends T.k_edge_ends T.b_edge_ends .nil (px_out (L2N.takes_of rfl rfl rfl rfl)) (pa_cons (pv 0) (pa_cons (pv 1) pa_nil))) (pg_seqK (K := (kt K ad).K) rfl (n := 2) rfl (pgs_cons (pg_name (i := 2) sc_edge_between.nd rfl (by first | exact Or.inl rfl | exact Or.inr rfl)) (pgs_cons (pg_name (i := 3) sc_edge_between.nd rfl (by first | exact Or.inl rfl | exact Or.inr rfl)) pgs_nil))))
      (pss_one (ps_ret (pe_tup (pa_cons (pe_callB (cr_min2K (K := (kt K ad).K) rfl rfl (Ez.hu64 hr)) (by rfl) T.b_min (by decide +kernel) (pa_cons (pv 2) (pa_cons (pv 3) pa_nil))) (pa_cons (pe_callB (call_max2 rfl) (by rfl) T.b_max (by decide +kernel) (pa_cons (pv 2) (pa_cons (pv 3) pa_nil))) pa_nil))))))), ?_⟩
  show _ = (denS (dn (kt K ad) tx (con ad) n E) b_edge_between).ts
  unfold b_edge_between
  simp only [denS, den, denGp, denI, denB, den2, Dn.of, Dn.wt, cond] <;> rfl
theorem ok_edge_ends (T : Txt K mg ad) {n : Nat} (I : AllOk Pg w K mg base ad n) : FnG Pg w K mg base (2 * (n + 1) + 2) ad.f_edge_ends ad.fd_edge_ends ["face", "beside"] (spR (kt K ad) tx (n + 1) 14) := by
  refine fn_R (txok T) rfl T.F_edge_ends sc_edge_ends rfl rfl rfl fun cdv A outer s H E gs hr => ?_
  refine of_ex ⟨_, (pss_cons (ps_asg (pe_ix (ix_seqK (K := (kt K ad).K) rfl) (pe_glob (v := .ref _) (by rfl) T.m_FACE_AXES rfl) (pv 0) (fun _ _ => rfl)) (pg_seqK (K := (kt K ad).K) rfl (n := 2) rfl (pgs_cons (pg_name (i := 2) sc_edge_ends.nd rfl (by first | exact Or.inl rfl | exact Or.inr rfl)) (pgs_cons (pg_name (i := 3) sc_edge_ends.nd rfl (by first | exact Or.inl rfl | exact Or.inr rfl)) pgs_nil))))
      (pss_cons (ps_set (i := 4) sc_edge_ends.nd rfl (by first | exact Or.inl rfl | exact Or.inr rfl) (pe_ifExp (pt_cmpR (op_eqK (K := (kt K ad).K) rfl (Ez.hu64 hr)) (pe_op op_fdivZ (pv 1) pe_int) (pv 2) (nomark _)) (pv 3) (pv 2)))
      (pss_cons (ps_set (i := 5) sc_edge_ends.nd rfl (by first | exact Or.inl rfl | exact Or.inr rfl) (pe_op op_or (pe_op op_shl (pe_op op_mod (pv 0) pe_int) (pe_op op_sub pe_int (pe_op op_fdivZ (pv 0) pe_int))) (pe_op op_shl (pe_op op_mod (pv 1) pe_int) (pe_op op_sub pe_int (pe_op op_fdivZ (pv 1) pe_int)))))
      (pss_cons (ps_par (i := 6) (j := 7) rfl sc_edge_ends.nd rfl rfl (by decide) rfl rfl (pa_cons (pv 5) (pa_cons (pe_op op_or (pv 5) (pe_op op_shl pe_int (pe_op op_sub pe_int (pv 4)))) pa_nil)) rfl)
      (pss_cons (ps_if (pt_cmpR (op_eqK (K := (kt K ad).K) rfl (Ez.hu64 hr)) (pe_cmpR (op_eqK (K := (kt K ad).K) rfl (Ez.hu64 hr)) (pv 4) (pv 3) (nomark _)) (pe_cmpR (op_eqK (K := (kt K ad).K) rfl (Ez.hu64 hr)) (pe_op op_mod (pv 1) pe_int) pe_int (nomark _)) (nomark _)) (pss_one (ps_ret (pe_tup (pa_cons (pv 6) (pa_cons (pv 7) pa_nil))))) pss_nil)
      (pss_one (ps_ret (pe_tup (pa_cons (pv 7) (pa_cons (pv 6) pa_nil)))))))))), ?_⟩
  show _ = (denS (dn (kt K ad) tx (con ad) n E) b_edge_ends).ts
  unfold b_edge_ends
  simp only [denS, den, denGp, denI, denB, den2, Dn.of, Dn.wt, cond] <;> rfl
theorem ok__law_axes (T : Txt K mg ad) {n : Nat} (I : AllOk Pg w K mg base ad n) : FnG Pg w K mg base (2 * (n + 1) + 2) ad.f__law_axes ad.fd__law_axes ["_law_face"] (spR (kt K ad) tx (n + 1) 18) := by
  refine fn_R (txok T) rfl T.F__law_axes sc__law_axes rfl rfl rfl fun cdv A outer s H E gs hr => ?_
  refine of_ex ⟨_, (pss_one (ps_ret (pe_ix (ix_seqK (K := (kt K ad).K) rfl) (pe_tup (pa_cons (pe_tup (pa_cons pe_int (pa_cons pe_int pa_nil))) (pa_cons (pe_tup (pa_cons pe_int (pa_cons pe_int pa_nil))) (pa_cons (pe_tup (pa_cons pe_int (pa_cons pe_int pa_nil))) (pa_cons (pe_tup (pa_cons pe_int (pa_cons pe_int pa_nil))) (pa_cons (pe_tup (pa_cons pe_int (pa_cons pe_int pa_nil))) (pa_cons (pe_tup (pa_cons pe_int (pa_cons pe_int pa_nil))) pa_nil))))))) (pv 0) (fun _ _ => rfl)))), ?_⟩
  show _ = (denS (dn (kt K ad) tx (con ad) n E) b__law_axes).ts
  unfold b__law_axes
  simp only [denS, den, denGp, denI, denB, den2, Dn.of, Dn.wt, cond] <;> rfl
theorem ok__law_tuples (T : Txt K mg ad) {n : Nat} (I : AllOk Pg w K mg base ad n) : FnG Pg w K mg base (2 * (n + 1) + 2) ad.f__law_tuples ad.fd__law_tuples ["_law_thing"] (spR (kt K ad) tx (n + 1) 19) := by
  refine fn_R (txok T) rfl T.F__law_tuples sc__law_tuples rfl rfl rfl fun cdv A outer s H E gs hr => ?_
  refine of_ex ⟨_, (pss_cons (ps_if (pt_val (pe_callB (call_isiK (K := (kt K ad).K) rfl) (by rfl) T.b_isinstance (by decide +kernel) (pa_cons (pv 0) (pa_cons (pe_bltn (v := .ty "tuple") (by rfl) T.b_tuple (by decide +kernel) rfl) pa_nil)))) (pss_one (ps_ret (pe_notTK (K := (kt K ad).K) rfl (pe_lc (own := [("_law_item", 1)]) (by rfl) sc__law_tuples.nd (pi_seqK (K := (kt K ad).K) rfl (pv 0)) (blkOk_by (N := ["_law_thing", "_law_item"]) (sc := defScope s__law_tuples) (own := [("_law_item", 1)]) (by decide +kernel)) (fun _ _ _ _ _ => (pg_name (i := 1) sc__law_tuples.nd rfl (by first | exact Or.inl rfl | exact Or.inr rfl))) (fun _ _ _ _ _ => pts_one (pt_not (pt_val (pe_callGS (E := Snk.no.at) I._law_tuples (hr.mono (by omega)) gs (by rfl) T.m__law_tuples T.k__law_tuples T.b__law_tuples .nil px_no (pa_cons (pv 1) pa_nil))))) (fun _ _ _ _ _ => pe_int))))) pss_nil)
      (pss_one (ps_ret (pe_or (pe_cmp (pc_isN (pv 0))) (Ez.pe_or1 (pe_and (pe_callB (call_isiK (K := (kt K ad).K) rfl) (by rfl) T.b_isinstance (by decide +kernel) (pa_cons (pv 0) (pa_cons (pe_bltn (v := .ty "int") (by rfl) T.b_int (by decide +kernel) rfl) pa_nil))) (Ez.pe_and1 (pe_not (pe_callB (call_isiK (K := (kt K ad).K) rfl) (by rfl) T.b_isinstance (by decide +kernel) (pa_cons (pv 0) (pa_cons (pe_bltn (v := .ty "bool") (by rfl) T.b_bool (by decide +kernel) rfl) pa_nil))))))))))), ?_⟩
  show _ = (denS (dn (kt K ad) tx (con ad) n E) b__law_tuples).ts
  unfold b__law_tuples
  simp only [denS, den, denGp, denI, denB, den2, Dn.of, Dn.wt, cond] <;> rfl
theorem ok__law_odd (T : Txt K mg ad) {n : Nat} (I : AllOk Pg w K mg base ad n) : FnG Pg w K mg base (2 * (n + 1) + 2) ad.f__law_odd ad.fd__law_odd ["_law_hand_here", "_law_high"] (spR (kt K ad) tx (n + 1) 20) := by
  refine fn_R (txok T) rfl T.F__law_odd sc__law_odd rfl rfl rfl fun cdv A outer s H E gs hr => ?_
  refine of_ex ⟨_, (pss_one (ps_ret (pe_ix (ix_seqK (K := (kt K ad).K) rfl) (pe_lst (pa_cons pe_bl (pa_cons pe_non (pa_cons pe_str (pa_cons (pe_un un_neg pe_int) (pa_cons (pe_op (op_addK (K := (kt K ad).K) rfl) (pv 1) pe_int) (pa_cons (pe_tup (pa_cons pe_int pa_nil)) (pa_cons pe_bl (pa_cons (pe_op (op_addK (K := (kt K ad).K) rfl) (pv 1) (pe_op op_pow pe_int pe_int)) pa_nil))))))))) (pe_callG I.take (hr.mono (by omega)) gs (by rfl) T.m__law_take T.k__law_take T.b__law_take .nil passN (pa_cons (pv 0) (pa_cons pe_int pa_nil))) (fun _ _ => rfl)))), ?_⟩
  show _ = (denS (dn (kt K ad) tx (con ad) n E) b__law_odd).ts
  unfold b__law_odd
  simp only [denS, den, denGp, denI, denB, den2, Dn.of, Dn.wt, cond] <;> rfl
theorem ok__law_rid (T : Txt K mg ad) {n : Nat} (I : AllOk Pg w K mg base ad n) : FnG Pg w K mg base (2 * (n + 1) + 2) ad.f__law_rid ad.fd__law_rid ["_law_hand_here"] (spR (kt K ad) tx (n + 1) 21) := by
  refine fn_R (txok T) rfl T.F__law_rid sc__law_rid rfl rfl rfl fun cdv A outer s H E gs hr => ?_
  refine of_ex ⟨_, (pss_one (ps_ret (pe_ix (ix_seqK (K := (kt K ad).K) rfl) (pe_lst (pa_cons pe_non (pa_cons pe_int (pa_cons pe_str (pa_cons pe_bl pa_nil))))) (pe_callG I.take (hr.mono (by omega)) gs (by rfl) T.m__law_take T.k__law_take T.b__law_take .nil passN (pa_cons (pv 0) (pa_cons pe_int pa_nil))) (fun _ _ => rfl)))), ?_⟩
  show _ = (denS (dn (kt K ad) tx (con ad) n E) b__law_rid).ts
  unfold b__law_rid
  simp only [denS, den, denGp, denI, denB, den2, Dn.of, Dn.wt, cond] <;> rfl
theorem ok__law_whole (T : Txt K mg ad) {n : Nat} (I : AllOk Pg w K mg base ad n) : FnG Pg w K mg base (2 * (n + 1) + 2) ad.f__law_whole ad.fd__law_whole ["_law_thing", "_law_low", "_law_high"] (spR (kt K ad) tx (n + 1) 22) := by
  refine fn_R (txok T) rfl T.F__law_whole sc__law_whole rfl rfl rfl fun cdv A outer s H E gs hr => ?_
  refine of_ex ⟨_, (pss_one (ps_ret (pe_and (pe_callB (call_isiK (K := (kt K ad).K) rfl) (by rfl) T.b_isinstance (by decide +kernel) (pa_cons (pv 0) (pa_cons (pe_bltn (v := .ty "int") (by rfl) T.b_int (by decide +kernel) rfl) pa_nil))) (pe_and (pe_not (pe_callB (call_isiK (K := (kt K ad).K) rfl) (by rfl) T.b_isinstance (by decide +kernel) (pa_cons (pv 0) (pa_cons (pe_bltn (v := .ty "bool") (by rfl) T.b_bool (by decide +kernel) rfl) pa_nil)))) (Ez.pe_and1 (pe_chain op_le op_le (pv 1) (pv 0) (pv 2))))))), ?_⟩
  show _ = (denS (dn (kt K ad) tx (con ad) n E) b__law_whole).ts
  unfold b__law_whole
  simp only [denS, den, denGp, denI, denB, den2, Dn.of, Dn.wt, cond] <;> rfl
theorem ok__law_bits (T : Txt K mg ad) {n : Nat} (I : AllOk Pg w K mg base ad n) : FnG Pg w K mg base (2 * (n + 1) + 2) ad.f__law_bits ad.fd__law_bits ["_law_corner"] (spR (kt K ad) tx (n + 1) 23) := by
  refine fn_R (txok T) rfl T.F__law_bits sc__law_bits rfl rfl rfl fun cdv A outer s H E gs hr => ?_
  refine of_ex ⟨_, (pss_one (ps_ret (pe_tup (pa_cons (pe_op op_fdivZ (pv 0) pe_int) (pa_cons (pe_op op_mod (pe_callTy (T := "int") call_int1 (by rfl) T.b_int (by decide +kernel) (pa_cons (pe_op op_fdivZ (pv 0) pe_int) pa_nil)) pe_int) (pa_cons (pe_op op_mod (pe_callTy (T := "int") call_int1 (by rfl) T.b_int (by decide +kernel) (pa_cons (pv 0) pa_nil)) pe_int) pa_nil)))))), ?_⟩
  show _ = (denS (dn (kt K ad) tx (con ad) n E) b__law_bits).ts
  unfold b__law_bits
  simp only [denS, den, denGp, denI, denB, den2, Dn.of, Dn.wt, cond] <;> rfl
theorem ok__law_shaped (T : Txt K mg ad) {n : Nat} (I : AllOk Pg w K mg base ad n) : FnG Pg w K mg base (2 * (n + 1) + 2) ad.f__law_shaped ad.fd__law_shaped ["_law_hand_here", "_law_items"] (spR (kt K ad) tx (n + 1) 24) := by
  refine fn_R (txok T) rfl T.F__law_shaped sc__law_shaped rfl rfl rfl fun cdv A outer s H E gs hr => ?_
  refine of_ex ⟨_, (pss_one (ps_ret (pe_ifExp (pt_cmpR (op_eqK (K := (kt K ad).K) rfl (Ez.hu64 hr)) (pe_callG I.take (hr.mono (by omega)) gs (by rfl) T.m__law_take T.k__law_take T.b__law_take .nil passN (pa_cons (pv 0) (pa_cons pe_int pa_nil))) pe_int (nomark _)) (pe_callTy (T := "list") (call_listK (K := (kt K ad).K) rfl) (by rfl) T.b_list (by decide +kernel) (pa_cons (pv 1) pa_nil)) (pe_callTy (T := "tuple") (call_tupK (K := (kt K ad).K) rfl) (by rfl) T.b_tuple (by decide +kernel) (pa_cons (pv 1) pa_nil))))), ?_⟩
  show _ = (denS (dn (kt K ad) tx (con ad) n E) b__law_shaped).ts
  unfold b__law_shaped
  simp only [denS, den, denGp, denI, denB, den2, Dn.of, Dn.wt, cond] <;> rfl
theorem ok__law_box (T : Txt K mg ad) {n : Nat} (I : AllOk Pg w K mg base ad n) : FnG Pg w K mg base (2 * (n + 1) + 2) ad.f__law_box ad.fd__law_box ["_law_sides"] (spR (kt K ad) tx (n + 1) 25) := by
  refine fn_R (txok T) rfl T.F__law_box sc__law_box rfl rfl rfl fun cdv A outer s H E gs hr => ?_
  refine of_ex ⟨_, (pss_cons (Ez.ps_tryR (Wout := fun _ _ _ _ => False) rfl rfl sc__law_box.nd takesN (fun Wx pn xe tk _ => (pss_one (ps_set (i := 1) sc__law_box.nd rfl (by first | exact Or.inl rfl | exact Or.inr rfl) (pe_makeGS (E := (Snk.tr Wx).at) T.mk_Box I.Box___init__ (hr.mono (by omega)) gs (by rfl) T.m_Box T.b_Box___init__ (px_tr tk) (pa_cons (pv 0) pa_nil))))) (HdsN.named (i := 2) ⟨by rfl, by decide, Or.inl T.m_BadBox⟩ rfl rfl (fun a oe cls d pn hz hf => (pss_one (ps_ret (pe_lst (pa_cons pe_str (pa_cons (pe_xf T.x_BadBox T.xn_BadBox_index hz.zc hf (pv 2)) pa_nil)))))) (HdsN.plain ⟨by rfl, by decide, Or.inl T.m_ParcelError⟩ (fun a oe cls d pn hz hf => (pss_one (ps_ret (pe_lst (pa_cons pe_str pa_nil))))) HdsN.nil)))
      (pss_one (ps_ret (pv 1)))), ?_⟩
  show _ = (denS (dn (kt K ad) tx (con ad) n E) b__law_box).ts
  unfold b__law_box
  simp only [denS, den, denGp, denI, denB, den2, Dn.of, Dn.wt, cond] <;> rfl
theorem ok__law_asked (T : Txt K mg ad) {n : Nat} (I : AllOk Pg w K mg base ad n) : FnG Pg w K mg base (2 * (n + 1) + 2) ad.f__law_asked ad.fd__law_asked ["_law_deed", "_law_thing"] (spR (kt K ad) tx (n + 1) 26) := by
  refine fn_R (txok T) rfl T.F__law_asked sc__law_asked rfl rfl rfl fun cdv A outer s H E gs hr => ?_
  refine of_ex ⟨_, (pss_cons (Ez.ps_tryR (Wout := fun _ _ _ _ => False) rfl rfl sc__law_asked.nd takesN (fun Wx pn xe tk _ => (pss_one (ps_set (i := 2) sc__law_asked.nd rfl (by first | exact Or.inl rfl | exact Or.inr rfl) (pe_callV (E := (Snk.tr Wx).at) (fn := (kt K ad).fn) (ok := tx.ok) (i := 0) (by exact I.any) (hr.mono (by omega)) gs rfl (Or.inl rfl) (px_tr tk) (pa_cons (pv 1) pa_nil))))) (HdsN.named (i := 3) ⟨by rfl, by decide, Or.inl T.m_BadFace⟩ rfl rfl (fun a oe cls d pn hz hf => (pss_one (ps_set (i := 2) sc__law_asked.nd rfl (by first | exact Or.inl rfl | exact Or.inr rfl) (pe_lst (pa_cons pe_str (pa_cons (pe_xf T.x_BadFace T.xn_BadFace_face hz.zc hf (pv 3)) pa_nil)))))) (HdsN.named (i := 3) ⟨by rfl, by decide, Or.inl T.m_BadCorner⟩ rfl rfl (fun a oe cls d pn hz hf => (pss_one (ps_set (i := 2) sc__law_asked.nd rfl (by first | exact Or.inl rfl | exact Or.inr rfl) (pe_lst (pa_cons pe_str (pa_cons (pe_xf T.x_BadCorner T.xn_BadCorner_corner hz.zc hf (pv 3)) pa_nil)))))) (HdsN.named (i := 3) ⟨by rfl, by decide, Or.inl T.m_BadEdge⟩ rfl rfl (fun a oe cls d pn hz hf => (pss_one (ps_set (i := 2) sc__law_asked.nd rfl (by first | exact Or.inl rfl | exact Or.inr rfl) (pe_lst (pa_cons pe_str (pa_cons (pe_xf T.x_BadEdge T.xn_BadEdge_edge hz.zc hf (pv 3)) pa_nil)))))) (HdsN.plain ⟨by rfl, by decide, Or.inl T.m_ParcelError⟩ (fun a oe cls d pn hz hf => (pss_one (ps_set (i := 2) sc__law_asked.nd rfl (by first | exact Or.inl rfl | exact Or.inr rfl) (pe_lst (pa_cons pe_str pa_nil))))) HdsN.nil)))))
      (pss_one (ps_ret (pv 2)))), ?_⟩
  show _ = (denS (dn (kt K ad) tx (con ad) n E) b__law_asked).ts
  unfold b__law_asked
  simp only [denS, den, denGp, denI, denB, den2, Dn.of, Dn.wt, cond] <;> rfl
theorem ok__law_between (T : Txt K mg ad) {n : Nat} (I : AllOk Pg w K mg base ad n) : FnG Pg w K mg base (2 * (n + 1) + 2) ad.f__law_between ad.fd__law_between ["_law_deed", "_law_one", "_law_other"] (spR (kt K ad) tx (n + 1) 27) := by
  refine fn_R (txok T) rfl T.F__law_between sc__law_between rfl rfl rfl fun cdv A outer s H E gs hr => ?_
  refine of_ex ⟨_, (pss_cons (Ez.ps_tryR (Wout := fun _ _ _ _ => False) rfl rfl sc__law_between.nd takesN (fun Wx pn xe tk _ => (pss_one (ps_set (i := 3) sc__law_between.nd rfl (by first | exact Or.inl rfl | exact Or.inr rfl) (pe_callV (E := (Snk.tr Wx).at) (fn := (kt K ad).fn) (ok := tx.ok) (i := 0) (by exact I.any) (hr.mono (by omega)) gs rfl (Or.inl rfl) (px_tr tk) (pa_cons (pv 1) (pa_cons (pv 2) pa_nil)))))) (HdsN.named (i := 4) ⟨by rfl, by decide, Or.inl T.m_BadFace⟩ rfl rfl (fun a oe cls d pn hz hf => (pss_one (ps_set (i := 3) sc__law_between.nd rfl (by first | exact Or.inl rfl | exact Or.inr rfl) (pe_lst (pa_cons pe_str (pa_cons (pe_xf T.x_BadFace T.xn_BadFace_face hz.zc hf (pv 4)) pa_nil)))))) (HdsN.named (i := 4) ⟨by rfl, by decide, Or.inl T.m_NoEdge⟩ rfl rfl (fun a oe cls d pn hz hf => (pss_one (ps_set (i := 3) sc__law_between.nd rfl (by first | exact Or.inl rfl | exact Or.inr rfl) (pe_lst (pa_cons pe_str (pa_cons (pe_xf T.x_NoEdge T.xn_NoEdge_face hz.zc hf (pv 4)) (pa_cons (pe_xf T.x_NoEdge T.xn_NoEdge_beside hz.zc hf (pv 4)) pa_nil))))))) (HdsN.plain ⟨by rfl, by decide, Or.inl T.m_ParcelError⟩ (fun a oe cls d pn hz hf => (pss_one (ps_set (i := 3) sc__law_between.nd rfl (by first | exact Or.inl rfl | exact Or.inr rfl) (pe_lst (pa_cons pe_str pa_nil))))) HdsN.nil))))
      (pss_one (ps_ret (pv 3)))), ?_⟩
  show _ = (denS (dn (kt K ad) tx (con ad) n E) b__law_between).ts
  unfold b__law_between
  simp only [denS, den, denGp, denI, denB, den2, Dn.of, Dn.wt, cond] <;> rfl
theorem ok__law_plain (T : Txt K mg ad) {n : Nat} (I : AllOk Pg w K mg base ad n) : FnG Pg w K mg base (2 * (n + 1) + 2) ad.f__law_plain ad.fd__law_plain ["_law_thing"] (spR (kt K ad) tx (n + 1) 28) := by
  refine fn_R (txok T) rfl T.F__law_plain sc__law_plain rfl rfl rfl fun cdv A outer s H E gs hr => ?_
  refine of_ex ⟨_, (pss_one (ps_ret (pe_ifExp (pt_val (pe_callB (call_isiTK (K := (kt K ad).K) rfl) (by rfl) T.b_isinstance (by decide +kernel) (pa_cons (pv 0) (pa_cons (pe_tup (pa_cons (pe_bltn (v := .ty "list") (by rfl) T.b_list (by decide +kernel) rfl) (pa_cons (pe_bltn (v := .ty "tuple") (by rfl) T.b_tuple (by decide +kernel) rfl) pa_nil))) pa_nil)))) (pe_callTy (T := "tuple") (call_tupK (K := (kt K ad).K) rfl) (by rfl) T.b_tuple (by decide +kernel) (pa_cons (pe_lc (own := [("_law_item", 1)]) (by rfl) sc__law_plain.nd (pi_seqK (K := (kt K ad).K) rfl (pv 0)) (blkOk_by (N := ["_law_thing", "_law_item"]) (sc := defScope s__law_plain) (own := [("_law_item", 1)]) (by decide +kernel)) (fun _ _ _ _ _ => (pg_name (i := 1) sc__law_plain.nd rfl (by first | exact Or.inl rfl | exact Or.inr rfl))) (fun _ _ _ _ _ => pts_nil) (fun _ _ _ _ _ => (pe_callGS (E := Snk.no.at) I._law_plain (hr.mono (by omega)) gs (by rfl) T.m__law_plain T.k__law_plain T.b__law_plain .nil px_no (pa_cons (pv 1) pa_nil)))) pa_nil)) (pv 0)))), ?_⟩
  show _ = (denS (dn (kt K ad) tx (con ad) n E) b__law_plain).ts
  unfold b__law_plain
  simp only [denS, den, denGp, denI, denB, den2, Dn.of, Dn.wt, cond] <;> rfl
theorem ok__law_like (T : Txt K mg ad) {n : Nat} (I : AllOk Pg w K mg base ad n) : FnG Pg w K mg base (2 * (n + 1) + 2) ad.f__law_like ad.fd__law_like ["_law_one", "_law_other"] (spR (kt K ad) tx (n + 1) 29) := by
  refine fn_R (txok T) rfl T.F__law_like sc__law_like rfl rfl rfl fun cdv A outer s H E gs hr => ?_
  refine of_ex ⟨_, (pss_one (ps_ret (pe_and (pe_cmpR (op_eqK (K := (kt K ad).K) rfl (Ez.hu64 hr)) (pe_callGS (E := (Snk.out E).at) I._law_plain (hr.mono (by omega)) gs (by rfl) T.m__law_plain T.k__law_plain T.b__law_plain .nil (px_out (L2N.takes_of rfl rfl rfl rfl)) (pa_cons (pv 0) pa_nil)) (pe_callGS (E := (Snk.out E).at) I._law_plain (hr.mono (by omega)) gs (by rfl) T.m__law_plain T.k__law_plain T.b__law_plain .nil (px_out (L2N.takes_of rfl rfl rfl rfl)) (pa_cons (pv 1) pa_nil)) (nomark _)) (Ez.pe_and1 (pe_cmpR op_eq (pe_callB (call_reprK (K := (kt K ad).K) rfl gs (Ez.hu64 hr)) (by rfl) T.b_repr (by decide +kernel) (pa_cons (pe_callGS (E := (Snk.out E).at) I._law_plain (hr.mono (by omega)) gs (by rfl) T.m__law_plain T.k__law_plain T.b__law_plain .nil (px_out (L2N.takes_of rfl rfl rfl rfl)) (pa_cons (pv 0) pa_nil)) pa_nil)) (pe_callB (call_reprK (K := (kt K ad).K) rfl gs (Ez.hu64 hr)) (by rfl) T.b_repr (by decide +kernel) (pa_cons (pe_callGS (E := (Snk.out E).at) I._law_plain (hr.mono (by omega)) gs (by rfl) T.m__law_plain T.k__law_plain T.b__law_plain .nil (px_out (L2N.takes_of rfl rfl rfl rfl)) (pa_cons (pv 1) pa_nil)) pa_nil)) (nomark _)))))), ?_⟩
  show _ = (denS (dn (kt K ad) tx (con ad) n E) b__law_like).ts
  unfold b__law_like
  simp only [denS, den, denGp, denI, denB, den2, Dn.of, Dn.wt, cond] <;> rfl
theorem ok__law_faces (T : Txt K mg ad) {n : Nat} (I : AllOk Pg w K mg base ad n) : FnG Pg w K mg base (2 * (n + 1) + 2) ad.f__law_faces ad.fd__law_faces ["_law_hand_here"] (spR (kt K ad) tx (n + 1) 30) := by
  refine fn_R (txok T) rfl T.F__law_faces sc__law_faces rfl rfl rfl fun cdv A outer s H E gs hr => ?_
  refine of_ex ⟨_, (pss_cons (ps_for (by passes_own) rfl (pi_range1 (by rfl) T.b_range (pa_cons pe_int pa_nil)) (pg_name (i := 1) sc__law_faces.nd rfl (by first | exact Or.inl rfl | exact Or.inr rfl)) (pss_cons (ps_set (i := 2) sc__law_faces.nd rfl (by first | exact Or.inl rfl | exact Or.inr rfl) (pe_callTy (T := "tuple") (call_tupK (K := (kt K ad).K) rfl) (by rfl) T.b_tuple (by decide +kernel) (pa_cons (pe_lc (own := [("_law_other", 3)]) (by rfl) sc__law_faces.nd (pi_range1 (by rfl) T.b_range (pa_cons pe_int pa_nil)) (blkOk_by (N := ["_law_hand_here", "_law_face", "_law_near", "_law_other", "_law_due", "_law_k", "_law_odd_here", "_law_deed", "_law_good"]) (sc := defScope s__law_faces) (own := [("_law_other", 3)]) (by decide +kernel)) (fun _ _ _ _ _ => (pg_name (i := 3) sc__law_faces.nd rfl (by first | exact Or.inl rfl | exact Or.inr rfl))) (fun _ _ _ _ _ => pts_one (pt_cmpR (op_neK (K := (kt K ad).K) rfl (Ez.hu64 hr)) (pe_op op_fdivZ (pv 3) pe_int) (pe_op op_fdivZ (pv 1) pe_int) (nomark _))) (fun _ _ _ _ _ => (pv 3))) pa_nil)))
      (pss_cons (ps_if (pw_or (pt_cmpR (op_neK (K := (kt K ad).K) rfl (Ez.hu64 hr)) (pe_callGS (E := (Snk.out E).at) I.check_face (hr.mono (by omega)) gs (by rfl) T.m_check_face T.k_check_face T.b_check_face .nil (px_out (L2N.takes_of rfl rfl rfl rfl)) (pa_cons (pv 1) pa_nil)) (pv 1) (nomark _)) (pw_or (pt_cmpR (op_neK (K := (kt K ad).K) rfl (Ez.hu64 hr)) (pe_callGS (E := (Snk.out E).at) I.face_axes (hr.mono (by omega)) gs (by rfl) T.m_face_axes T.k_face_axes T.b_face_axes .nil (px_out (L2N.takes_of rfl rfl rfl rfl)) (pa_cons (pv 1) pa_nil)) (pe_callGS (E := (Snk.out E).at) I._law_axes (hr.mono (by omega)) gs (by rfl) T.m__law_axes T.k__law_axes T.b__law_axes .nil (px_out (L2N.takes_of rfl rfl rfl rfl)) (pa_cons (pv 1) pa_nil)) (nomark _)) (pw_or1 (pt_cmpR (op_neK (K := (kt K ad).K) rfl (Ez.hu64 hr)) (pe_callGS (E := (Snk.out E).at) I.faces_beside (hr.mono (by omega)) gs (by rfl) T.m_faces_beside T.k_faces_beside T.b_faces_beside .nil (px_out (L2N.takes_of rfl rfl rfl rfl)) (pa_cons (pv 1) pa_nil)) (pv 2) (nomark _))))).pt (pss_one (ps_ret pe_bl)) pss_nil)
      (pss_one (ps_for (by passes_own) rfl (pi_range1 (by rfl) T.b_range (pa_cons pe_int pa_nil)) (pg_name (i := 3) sc__law_faces.nd rfl (by first | exact Or.inl rfl | exact Or.inr rfl)) (pss_cons (ps_if (pt_cmpR (op_neK (K := (kt K ad).K) rfl (Ez.hu64 hr)) (pe_callGS (E := (Snk.out E).at) I.are_beside (hr.mono (by omega)) gs (by rfl) T.m_are_beside T.k_are_beside T.b_are_beside .nil (px_out (L2N.takes_of rfl rfl rfl rfl)) (pa_cons (pv 1) (pa_cons (pv 3) pa_nil))) (pe_cmpR (op_inK (K := (kt K ad).K) rfl (hu65 hr)) (pv 3) (pv 2) rfl) (nomark _)) (pss_one (ps_ret pe_bl)) pss_nil)
      (pss_cons (ps_setLc (i := 4) (own := [("_law_k", 5)]) (by rfl) sc__law_faces.nd rfl rfl (sw_true rfl rfl rfl (by decide +kernel)) (pi_range1 (by rfl) T.b_range (pa_cons pe_int pa_nil)) (blkOk_by (N := ["_law_hand_here", "_law_face", "_law_near", "_law_other", "_law_due", "_law_k", "_law_odd_here", "_law_deed", "_law_good"]) (sc := defScope s__law_faces) (own := [("_law_k", 5)]) (by decide +kernel)) (fun _ _ _ _ _ => (pg_name (i := 5) sc__law_faces.nd rfl (by first | exact Or.inl rfl | exact Or.inr rfl))) (fun _ _ _ _ _ => pts_one (pw_and (pt_cmpR (op_eqK (K := (kt K ad).K) rfl (Ez.hu64 hr)) (pe_ix (ix_seqK (K := (kt K ad).K) rfl) (pe_callGS (E := Snk.no.at) I._law_bits (hr.mono (by omega)) gs (by rfl) T.m__law_bits T.k__law_bits T.b__law_bits .nil px_no (pa_cons (pv 5) pa_nil)) (pe_op op_fdivZ (pv 1) pe_int) (fun _ _ => rfl)) (pe_op op_mod (pe_callTy (T := "int") call_int1 (by rfl) T.b_int (by decide +kernel) (pa_cons (pv 1) pa_nil)) pe_int) (nomark _)) (pw_and1 (pt_cmpR (op_eqK (K := (kt K ad).K) rfl (Ez.hu64 hr)) (pe_ix (ix_seqK (K := (kt K ad).K) rfl) (pe_callGS (E := Snk.no.at) I._law_bits (hr.mono (by omega)) gs (by rfl) T.m__law_bits T.k__law_bits T.b__law_bits .nil px_no (pa_cons (pv 5) pa_nil)) (pe_op op_fdivZ (pv 3) pe_int) (fun _ _ => rfl)) (pe_op op_mod (pe_callTy (T := "int") call_int1 (by rfl) T.b_int (by decide +kernel) (pa_cons (pv 3) pa_nil)) pe_int) (nomark _)))).pt) (fun _ _ _ _ _ => (pv 5)))
      (pss_one (ps_if (pt_cmpR (op_inK (K := (kt K ad).K) rfl (hu65 hr)) (pv 3) (pv 2) rfl) (pss_one (ps_if (pw_or (pt_cmpR (op_neK (K := (kt K ad).K) rfl (Ez.hu64 hr)) (pe_callGS (E := (Snk.out E).at) I.edge_between (hr.mono (by omega)) gs (by rfl) T.m_edge_between T.k_edge_between T.b_edge_between .nil (px_out (L2N.takes_of rfl rfl rfl rfl)) (pa_cons (pv 1) (pa_cons (pv 3) pa_nil))) (pe_callTy (T := "tuple") (call_tupK (K := (kt K ad).K) rfl) (by rfl) T.b_tuple (by decide +kernel) (pa_cons (pv 4) pa_nil)) (nomark _)) (pw_or1 (pt_cmpR (op_neK (K := (kt K ad).K) rfl (Ez.hu64 hr)) (pe_callGS (E := (Snk.out E).at) I.faces_of_edge (hr.mono (by omega)) gs (by rfl) T.m_faces_of_edge T.k_faces_of_edge T.b_faces_of_edge .nil (px_out (L2N.takes_of rfl rfl rfl rfl)) (pa_cons (pv 4) pa_nil)) (pe_callTy (T := "tuple") (call_tupK (K := (kt K ad).K) rfl) (by rfl) T.b_tuple (by decide +kernel) (pa_cons (pe_callB (cr_sortedK (K := (kt K ad).K) rfl) (by rfl) T.b_sorted (by decide +kernel) (pa_cons (pe_lst (pa_cons (pv 1) (pa_cons (pv 3) pa_nil))) pa_nil)) pa_nil)) (nomark _)))).pt (pss_one (ps_ret pe_bl)) pss_nil)) (pss_one (ps_if (pt_cmpR (op_neK (K := (kt K ad).K) rfl (Ez.hu64 hr)) (pe_callGS (E := (Snk.out E).at) I._law_between (hr.mono (by omega)) gs (by rfl) T.m__law_between T.k__law_between T.b__law_between .nil (px_out (L2N.takes_of rfl rfl rfl rfl)) (pa_cons (pe_glob (v := .ref ad.f_edge_between) (by rfl) T.m_edge_between rfl) (pa_cons (pv 1) (pa_cons (pv 3) pa_nil)))) (pe_lst (pa_cons pe_str (pa_cons (pv 1) (pa_cons (pv 3) pa_nil)))) (nomark _)) (pss_one (ps_ret pe_bl)) pss_nil)))))))))))
      (pss_cons (ps_set (i := 6) sc__law_faces.nd rfl (by first | exact Or.inl rfl | exact Or.inr rfl) (pe_callGS (E := (Snk.out E).at) I._law_odd (hr.mono (by omega)) gs (by rfl) T.m__law_odd T.k__law_odd T.b__law_odd .nil (px_out (L2N.takes_of rfl rfl rfl rfl)) (pa_cons (pv 0) (pa_cons pe_int pa_nil))))
      (pss_cons (ps_for (by passes_own) rfl (pi_seqK (K := (kt K ad).K) rfl (pe_lst (pa_cons (pe_glob (v := .ref ad.f_check_face) (by rfl) T.m_check_face rfl) (pa_cons (pe_glob (v := .ref ad.f_face_axes) (by rfl) T.m_face_axes rfl) (pa_cons (pe_glob (v := .ref ad.f_faces_beside) (by rfl) T.m_faces_beside rfl) pa_nil))))) (pg_name (i := 7) sc__law_faces.nd rfl (by first | exact Or.inl rfl | exact Or.inr rfl)) (pss_one (ps_if (pt_not (pt_val (pe_callGS (E := (Snk.out E).at) I._law_like (hr.mono (by omega)) gs (by rfl) T.m__law_like T.k__law_like T.b__law_like .nil (px_out (L2N.takes_of rfl rfl rfl rfl)) (pa_cons (pe_callGS (E := (Snk.out E).at) I._law_asked (hr.mono (by omega)) gs (by rfl) T.m__law_asked T.k__law_asked T.b__law_asked .nil (px_out (L2N.takes_of rfl rfl rfl rfl)) (pa_cons (pv 7) (pa_cons (pv 6) pa_nil))) (pa_cons (pe_lst (pa_cons pe_str (pa_cons (pv 6) pa_nil))) pa_nil))))) (pss_one (ps_ret pe_bl)) pss_nil)))
      (pss_cons (ps_set (i := 8) sc__law_faces.nd rfl (by first | exact Or.inl rfl | exact Or.inr rfl) (pe_callG I.take (hr.mono (by omega)) gs (by rfl) T.m__law_take T.k__law_take T.b__law_take .nil passN (pa_cons (pv 0) (pa_cons pe_int pa_nil))))
      (pss_cons (ps_for (by passes_own) rfl (pi_seqK (K := (kt K ad).K) rfl (pe_lst (pa_cons (pe_glob (v := .ref ad.f_are_beside) (by rfl) T.m_are_beside rfl) (pa_cons (pe_glob (v := .ref ad.f_edge_between) (by rfl) T.m_edge_between rfl) pa_nil)))) (pg_name (i := 7) sc__law_faces.nd rfl (by first | exact Or.inl rfl | exact Or.inr rfl)) (pss_one (ps_if (pw_or (pt_not (pt_val (pe_callGS (E := (Snk.out E).at) I._law_like (hr.mono (by omega)) gs (by rfl) T.m__law_like T.k__law_like T.b__law_like .nil (px_out (L2N.takes_of rfl rfl rfl rfl)) (pa_cons (pe_callGS (E := (Snk.out E).at) I._law_between (hr.mono (by omega)) gs (by rfl) T.m__law_between T.k__law_between T.b__law_between .nil (px_out (L2N.takes_of rfl rfl rfl rfl)) (pa_cons (pv 7) (pa_cons (pv 6) (pa_cons (pe_un un_neg pe_int) pa_nil)))) (pa_cons (pe_lst (pa_cons pe_str (pa_cons (pv 6) pa_nil))) pa_nil))))) (pw_or1 (pt_not (pt_val (pe_callGS (E := (Snk.out E).at) I._law_like (hr.mono (by omega)) gs (by rfl) T.m__law_like T.k__law_like T.b__law_like .nil (px_out (L2N.takes_of rfl rfl rfl rfl)) (pa_cons (pe_callGS (E := (Snk.out E).at) I._law_between (hr.mono (by omega)) gs (by rfl) T.m__law_between T.k__law_between T.b__law_between .nil (px_out (L2N.takes_of rfl rfl rfl rfl)) (pa_cons (pv 7) (pa_cons (pv 8) (pa_cons (pv 6) pa_nil)))) (pa_cons (pe_lst (pa_cons pe_str (pa_cons (pv 6) pa_nil))) pa_nil))))))).pt (pss_one (ps_ret pe_bl)) pss_nil)))
      (pss_one (ps_ret pe_bl))))))), ?_⟩
  show _ = (denS (dn (kt K ad) tx (con ad) n E) b__law_faces).ts
  unfold b__law_faces
  simp only [denS, den, denGp, denI, denB, den2, Dn.of, Dn.wt, cond] <;> rfl
theorem ok__law_edges (T : Txt K mg ad) {n : Nat} (I : AllOk Pg w K mg base ad n) : FnG Pg w K mg base (2 * (n + 1) + 2) ad.f__law_edges ad.fd__law_edges ["_law_hand_here"] (spR (kt K ad) tx (n + 1) 31) := by
  refine fn_R (txok T) rfl T.F__law_edges sc__law_edges rfl rfl rfl fun cdv A outer s H E gs hr => ?_
  refine of_ex ⟨_, (pss_cons (ps_set (i := 1) sc__law_edges.nd rfl (by first | exact Or.inl rfl | exact Or.inr rfl) (pe_lst pa_nil))
      (pss_cons (ps_for (by passes_own) rfl (pi_range1 (by rfl) T.b_range (pa_cons pe_int pa_nil)) (pg_name (i := 2) sc__law_edges.nd rfl (by first | exact Or.inl rfl | exact Or.inr rfl)) (pss_one (ps_for (by passes_own) rfl (pi_range2 (by rfl) T.b_range (pa_cons (pe_op (op_addK (K := (kt K ad).K) rfl) (pv 2) pe_int) (pa_cons pe_int pa_nil))) (pg_name (i := 3) sc__law_edges.nd rfl (by first | exact Or.inl rfl | exact Or.inr rfl)) (pss_one (ps_if (pt_cmpR (op_eqK (K := (kt K ad).K) rfl (Ez.hu64 hr)) (pe_callB (cr_sumK (K := (kt K ad).K) rfl rfl) (by rfl) T.b_sum (by decide +kernel) (pa_cons (pe_lc (own := [("_law_k", 4)]) (by rfl) sc__law_edges.nd (pi_range1 (by rfl) T.b_range (pa_cons pe_int pa_nil)) (blkOk_by (N := ["_law_hand_here", "_law_due", "_law_one", "_law_other", "_law_k", "_law_edge", "_law_corner", "_law_bits_here", "_law_couple", "_law_fits", "_law_good", "_law_found", "_law_odd_here"]) (sc := defScope s__law_edges) (own := [("_law_k", 4)]) (by decide +kernel)) (fun _ _ _ _ _ => (pg_name (i := 4) sc__law_edges.nd rfl (by first | exact Or.inl rfl | exact Or.inr rfl))) (fun _ _ _ _ _ => pts_nil) (fun _ _ _ _ _ => (pe_callB call_abs (by rfl) T.b_abs (by decide +kernel) (pa_cons (pe_op op_sub (pe_ix (ix_seqK (K := (kt K ad).K) rfl) (pe_callGS (E := Snk.no.at) I._law_bits (hr.mono (by omega)) gs (by rfl) T.m__law_bits T.k__law_bits T.b__law_bits .nil px_no (pa_cons (pv 2) pa_nil)) (pv 4) (fun _ _ => rfl)) (pe_ix (ix_seqK (K := (kt K ad).K) rfl) (pe_callGS (E := Snk.no.at) I._law_bits (hr.mono (by omega)) gs (by rfl) T.m__law_bits T.k__law_bits T.b__law_bits .nil px_no (pa_cons (pv 3) pa_nil)) (pv 4) (fun _ _ => rfl))) pa_nil)))) pa_nil)) pe_int (nomark _)) (pss_one (ps_expr (pe_bm PySem.F.plainAttrs_list PySem.F.slot_list_append PySem.F.type_list_append mt_append (pv 1) (pa_cons (pe_tup (pa_cons (pv 2) (pa_cons (pv 3) pa_nil))) pa_nil)))) pss_nil)))))
      (pss_cons (ps_if (pt_cmpR (op_neK (K := (kt K ad).K) rfl (Ez.hu64 hr)) (pe_callGS0 (E := (Snk.out E).at) I.all_edges (hr.mono (by omega)) gs (by rfl) T.m_all_edges T.k_all_edges T.b_all_edges .nil (px_out (L2N.takes_of rfl rfl rfl rfl))) (pe_callTy (T := "tuple") (call_tupK (K := (kt K ad).K) rfl) (by rfl) T.b_tuple (by decide +kernel) (pa_cons (pv 1) pa_nil)) (nomark _)) (pss_one (ps_ret pe_bl)) pss_nil)
      (pss_cons (ps_for (by passes_own) rfl (pi_seqK (K := (kt K ad).K) rfl (pv 1)) (pg_name (i := 5) sc__law_edges.nd rfl (by first | exact Or.inl rfl | exact Or.inr rfl)) (pss_one (ps_if (pw_or (pt_cmpR (op_neK (K := (kt K ad).K) rfl (Ez.hu64 hr)) (pe_callGS (E := (Snk.out E).at) I.check_edge (hr.mono (by omega)) gs (by rfl) T.m_check_edge T.k_check_edge T.b_check_edge .nil (px_out (L2N.takes_of rfl rfl rfl rfl)) (pa_cons (pe_lst (pa_cons (pe_ix (ix_seqK (K := (kt K ad).K) rfl) (pv 5) pe_int (fun _ _ => rfl)) (pa_cons (pe_ix (ix_seqK (K := (kt K ad).K) rfl) (pv 5) pe_int (fun _ _ => rfl)) pa_nil))) pa_nil)) (pv 5) (nomark _)) (pw_or1 (pt_cmpR (op_neK (K := (kt K ad).K) rfl (Ez.hu64 hr)) (pe_callGS (E := (Snk.out E).at) I.check_edge (hr.mono (by omega)) gs (by rfl) T.m_check_edge T.k_check_edge T.b_check_edge .nil (px_out (L2N.takes_of rfl rfl rfl rfl)) (pa_cons (pv 5) pa_nil)) (pv 5) (nomark _)))).pt (pss_one (ps_ret pe_bl)) pss_nil)))
      (pss_cons (ps_for (by passes_own) rfl (pi_range1 (by rfl) T.b_range (pa_cons pe_int pa_nil)) (pg_name (i := 6) sc__law_edges.nd rfl (by first | exact Or.inl rfl | exact Or.inr rfl)) (pss_cons (ps_set (i := 7) sc__law_edges.nd rfl (by first | exact Or.inl rfl | exact Or.inr rfl) (pe_callGS (E := (Snk.out E).at) I._law_bits (hr.mono (by omega)) gs (by rfl) T.m__law_bits T.k__law_bits T.b__law_bits .nil (px_out (L2N.takes_of rfl rfl rfl rfl)) (pa_cons (pv 6) pa_nil)))
      (pss_one (ps_if (pw_or (pt_cmpR (op_neK (K := (kt K ad).K) rfl (Ez.hu64 hr)) (pe_callGS (E := (Snk.out E).at) I.check_corner (hr.mono (by omega)) gs (by rfl) T.m_check_corner T.k_check_corner T.b_check_corner .nil (px_out (L2N.takes_of rfl rfl rfl rfl)) (pa_cons (pv 6) pa_nil)) (pv 6) (nomark _)) (pw_or1 (pt_cmpR (op_neK (K := (kt K ad).K) rfl (Ez.hu64 hr)) (pe_callGS (E := (Snk.out E).at) I.faces_of_corner (hr.mono (by omega)) gs (by rfl) T.m_faces_of_corner T.k_faces_of_corner T.b_faces_of_corner .nil (px_out (L2N.takes_of rfl rfl rfl rfl)) (pa_cons (pv 6) pa_nil)) (pe_tup (pa_cons (pe_ix (ix_seqK (K := (kt K ad).K) rfl) (pv 7) pe_int (fun _ _ => rfl)) (pa_cons (pe_op (op_addK (K := (kt K ad).K) rfl) pe_int (pe_ix (ix_seqK (K := (kt K ad).K) rfl) (pv 7) pe_int (fun _ _ => rfl))) (pa_cons (pe_op (op_addK (K := (kt K ad).K) rfl) pe_int (pe_ix (ix_seqK (K := (kt K ad).K) rfl) (pv 7) pe_int (fun _ _ => rfl))) pa_nil)))) (nomark _)))).pt (pss_one (ps_ret pe_bl)) pss_nil))))
      (pss_cons (ps_set (i := 2) sc__law_edges.nd rfl (by first | exact Or.inl rfl | exact Or.inr rfl) (pe_callG I.take (hr.mono (by omega)) gs (by rfl) T.m__law_take T.k__law_take T.b__law_take .nil passN (pa_cons (pv 0) (pa_cons pe_int pa_nil))))
      (pss_cons (ps_set (i := 3) sc__law_edges.nd rfl (by first | exact Or.inl rfl | exact Or.inr rfl) (pe_callG I.take (hr.mono (by omega)) gs (by rfl) T.m__law_take T.k__law_take T.b__law_take .nil passN (pa_cons (pv 0) (pa_cons pe_int pa_nil))))
      (pss_cons (ps_set (i := 8) sc__law_edges.nd rfl (by first | exact Or.inl rfl | exact Or.inr rfl) (pe_ix (ix_seqK (K := (kt K ad).K) rfl) (pe_lst (pa_cons (pe_tup (pa_cons (pv 2) (pa_cons (pv 3) pa_nil))) (pa_cons (pe_lst (pa_cons (pv 3) (pa_cons (pv 2) pa_nil))) (pa_cons (pe_tup (pa_cons (pv 2) (pa_cons (pe_callGS (E := (Snk.out E).at) I._law_odd (hr.mono (by omega)) gs (by rfl) T.m__law_odd T.k__law_odd T.b__law_odd .nil (px_out (L2N.takes_of rfl rfl rfl rfl)) (pa_cons (pv 0) (pa_cons pe_int pa_nil))) pa_nil))) (pa_cons (pe_tup (pa_cons (pv 2) pa_nil)) (pa_cons (pe_tup (pa_cons pe_int (pa_cons pe_int (pa_cons pe_int pa_nil)))) (pa_cons (pe_tup (pa_cons (pe_callGS (E := (Snk.out E).at) I._law_odd (hr.mono (by omega)) gs (by rfl) T.m__law_odd T.k__law_odd T.b__law_odd .nil (px_out (L2N.takes_of rfl rfl rfl rfl)) (pa_cons (pv 0) (pa_cons pe_int pa_nil))) (pa_cons (pv 3) pa_nil))) (pa_cons (pv 2) pa_nil)))))))) (pe_callG I.take (hr.mono (by omega)) gs (by rfl) T.m__law_take T.k__law_take T.b__law_take .nil passN (pa_cons (pv 0) (pa_cons pe_int pa_nil))) (fun _ _ => rfl)))
      (pss_cons (ps_set (i := 9) sc__law_edges.nd rfl (by first | exact Or.inl rfl | exact Or.inr rfl) (pe_and (pe_callB (call_isiTK (K := (kt K ad).K) rfl) (by rfl) T.b_isinstance (by decide +kernel) (pa_cons (pv 8) (pa_cons (pe_tup (pa_cons (pe_bltn (v := .ty "list") (by rfl) T.b_list (by decide +kernel) rfl) (pa_cons (pe_bltn (v := .ty "tuple") (by rfl) T.b_tuple (by decide +kernel) rfl) pa_nil))) pa_nil))) (pe_and (pe_cmpR (op_eqK (K := (kt K ad).K) rfl (Ez.hu64 hr)) (pe_callB (call_lenK (K := (kt K ad).K) rfl) (by rfl) T.b_len (by decide +kernel) (pa_cons (pv 8) pa_nil)) pe_int (nomark _)) (pe_and (pe_callGS (E := (Snk.out E).at) I._law_whole (hr.mono (by omega)) gs (by rfl) T.m__law_whole T.k__law_whole T.b__law_whole .nil (px_out (L2N.takes_of rfl rfl rfl rfl)) (pa_cons (pe_ix (ix_seqK (K := (kt K ad).K) rfl) (pv 8) pe_int (fun _ _ => rfl)) (pa_cons pe_int (pa_cons pe_int pa_nil)))) (Ez.pe_and1 (pe_callGS (E := (Snk.out E).at) I._law_whole (hr.mono (by omega)) gs (by rfl) T.m__law_whole T.k__law_whole T.b__law_whole .nil (px_out (L2N.takes_of rfl rfl rfl rfl)) (pa_cons (pe_ix (ix_seqK (K := (kt K ad).K) rfl) (pv 8) pe_int (fun _ _ => rfl)) (pa_cons pe_int (pa_cons pe_int pa_nil)))))))))
      (pss_cons (ps_set (i := 10) sc__law_edges.nd rfl (by first | exact Or.inl rfl | exact Or.inr rfl) (pe_ifExp (pt_val (pv 9)) (pe_callTy (T := "tuple") (call_tupK (K := (kt K ad).K) rfl) (by rfl) T.b_tuple (by decide +kernel) (pa_cons (pe_callB (cr_sortedK (K := (kt K ad).K) rfl) (by rfl) T.b_sorted (by decide +kernel) (pa_cons (pv 8) pa_nil)) pa_nil)) pe_non))
      (pss_cons (ps_set (i := 11) sc__law_edges.nd rfl (by first | exact Or.inl rfl | exact Or.inr rfl) (pe_callGS (E := (Snk.out E).at) I._law_asked (hr.mono (by omega)) gs (by rfl) T.m__law_asked T.k__law_asked T.b__law_asked .nil (px_out (L2N.takes_of rfl rfl rfl rfl)) (pa_cons (pe_glob (v := .ref ad.f_check_edge) (by rfl) T.m_check_edge rfl) (pa_cons (pv 8) pa_nil))))
      (pss_cons (ps_if (pt_cmpR (op_inK (K := (kt K ad).K) rfl (hu65 hr)) (pv 10) (pv 1) rfl) (pss_one (ps_if (pw_or (pt_cmpR (op_neK (K := (kt K ad).K) rfl (Ez.hu64 hr)) (pv 11) (pv 10) (nomark _)) (pw_or1 (pt_cmpR (op_neK (K := (kt K ad).K) rfl (Ez.hu64 hr)) (pe_callGS (E := (Snk.out E).at) I._law_asked (hr.mono (by omega)) gs (by rfl) T.m__law_asked T.k__law_asked T.b__law_asked .nil (px_out (L2N.takes_of rfl rfl rfl rfl)) (pa_cons (pe_glob (v := .ref ad.f_faces_of_edge) (by rfl) T.m_faces_of_edge rfl) (pa_cons (pv 8) pa_nil))) (pe_callGS (E := (Snk.out E).at) I.faces_of_edge (hr.mono (by omega)) gs (by rfl) T.m_faces_of_edge T.k_faces_of_edge T.b_faces_of_edge .nil (px_out (L2N.takes_of rfl rfl rfl rfl)) (pa_cons (pv 10) pa_nil)) (nomark _)))).pt (pss_one (ps_ret pe_bl)) pss_nil)) (pss_one (ps_if (pw_or (pt_not (pt_val (pe_callGS (E := (Snk.out E).at) I._law_like (hr.mono (by omega)) gs (by rfl) T.m__law_like T.k__law_like T.b__law_like .nil (px_out (L2N.takes_of rfl rfl rfl rfl)) (pa_cons (pv 11) (pa_cons (pe_lst (pa_cons pe_str (pa_cons (pv 8) pa_nil))) pa_nil))))) (pw_or1 (pt_not (pt_val (pe_callGS (E := (Snk.out E).at) I._law_like (hr.mono (by omega)) gs (by rfl) T.m__law_like T.k__law_like T.b__law_like .nil (px_out (L2N.takes_of rfl rfl rfl rfl)) (pa_cons (pe_callGS (E := (Snk.out E).at) I._law_asked (hr.mono (by omega)) gs (by rfl) T.m__law_asked T.k__law_asked T.b__law_asked .nil (px_out (L2N.takes_of rfl rfl rfl rfl)) (pa_cons (pe_glob (v := .ref ad.f_faces_of_edge) (by rfl) T.m_faces_of_edge rfl) (pa_cons (pv 8) pa_nil))) (pa_cons (pe_lst (pa_cons pe_str (pa_cons (pv 8) pa_nil))) pa_nil))))))).pt (pss_one (ps_ret pe_bl)) pss_nil)))
      (pss_cons (ps_set (i := 12) sc__law_edges.nd rfl (by first | exact Or.inl rfl | exact Or.inr rfl) (pe_callGS (E := (Snk.out E).at) I._law_odd (hr.mono (by omega)) gs (by rfl) T.m__law_odd T.k__law_odd T.b__law_odd .nil (px_out (L2N.takes_of rfl rfl rfl rfl)) (pa_cons (pv 0) (pa_cons pe_int pa_nil))))
      (pss_one (ps_ret (pe_and (pe_callGS (E := (Snk.out E).at) I._law_like (hr.mono (by omega)) gs (by rfl) T.m__law_like T.k__law_like T.b__law_like .nil (px_out (L2N.takes_of rfl rfl rfl rfl)) (pa_cons (pe_callGS (E := (Snk.out E).at) I._law_asked (hr.mono (by omega)) gs (by rfl) T.m__law_asked T.k__law_asked T.b__law_asked .nil (px_out (L2N.takes_of rfl rfl rfl rfl)) (pa_cons (pe_glob (v := .ref ad.f_check_corner) (by rfl) T.m_check_corner rfl) (pa_cons (pv 12) pa_nil))) (pa_cons (pe_lst (pa_cons pe_str (pa_cons (pv 12) pa_nil))) pa_nil))) (Ez.pe_and1 (pe_callGS (E := (Snk.out E).at) I._law_like (hr.mono (by omega)) gs (by rfl) T.m__law_like T.k__law_like T.b__law_like .nil (px_out (L2N.takes_of rfl rfl rfl rfl)) (pa_cons (pe_callGS (E := (Snk.out E).at) I._law_asked (hr.mono (by omega)) gs (by rfl) T.m__law_asked T.k__law_asked T.b__law_asked .nil (px_out (L2N.takes_of rfl rfl rfl rfl)) (pa_cons (pe_glob (v := .ref ad.f_faces_of_corner) (by rfl) T.m_faces_of_corner rfl) (pa_cons (pv 12) pa_nil))) (pa_cons (pe_lst (pa_cons pe_str (pa_cons (pv 12) pa_nil))) pa_nil)))))))))))))))))))), ?_⟩
  show _ = (denS (dn (kt K ad) tx (con ad) n E) b__law_edges).ts
  unfold b__law_edges
  simp only [denS, den, denGp, denI, denB, den2, Dn.of, Dn.wt, cond] <;> rfl
theorem ok__law_spoilt (T : Txt K mg ad) {n : Nat} (I : AllOk Pg w K mg base ad n) : FnG Pg w K mg base (2 * (n + 1) + 2) ad.f__law_spoilt ad.fd__law_spoilt ["_law_hand_here", "_law_sides"] (spR (kt K ad) tx (n + 1) 32) := by
  refine fn_R (txok T) rfl T.F__law_spoilt sc__law_spoilt rfl rfl rfl fun cdv A outer s H E gs hr => ?_
  refine of_ex ⟨_, (pss_cons (ps_set (i := 2) sc__law_spoilt.nd rfl (by first | exact Or.inl rfl | exact Or.inr rfl) (pe_callG I.take (hr.mono (by omega)) gs (by rfl) T.m__law_take T.k__law_take T.b__law_take .nil passN (pa_cons (pv 0) (pa_cons pe_int pa_nil))))
      (pss_cons (ps_if (pt_cmpR (op_eqK (K := (kt K ad).K) rfl (Ez.hu64 hr)) (pv 2) pe_int (nomark _)) (pss_one (ps_ret (pe_lst (pa_cons (pe_callGS (E := (Snk.out E).at) I._law_rid (hr.mono (by omega)) gs (by rfl) T.m__law_rid T.k__law_rid T.b__law_rid .nil (px_out (L2N.takes_of rfl rfl rfl rfl)) (pa_cons (pv 0) pa_nil)) (pa_cons pe_int pa_nil))))) pss_nil)
      (pss_cons (ps_if (pt_cmpR (op_eqK (K := (kt K ad).K) rfl (Ez.hu64 hr)) (pv 2) pe_int (nomark _)) (pss_one (ps_ret (pe_lst (pa_cons (pe_ix (ix_seqK (K := (kt K ad).K) rfl) (pe_lst (pa_cons (pe_slice (sl_seqK (K := (kt K ad).K) rfl) (pv 1) po_none (po_some pe_int)) (pa_cons (pe_op (op_addK (K := (kt K ad).K) rfl) (pv 1) (pe_lst (pa_cons pe_int pa_nil))) (pa_cons (pe_lst pa_nil) pa_nil)))) (pe_callG I.take (hr.mono (by omega)) gs (by rfl) T.m__law_take T.k__law_take T.b__law_take .nil passN (pa_cons (pv 0) (pa_cons pe_int pa_nil))) (fun _ _ => rfl)) (pa_cons pe_int pa_nil))))) pss_nil)
      (pss_cons (ps_if (pt_cmpR op_lt (pv 2) pe_int (nomark _)) (pss_cons (ps_set (i := 3) sc__law_spoilt.nd rfl (by first | exact Or.inl rfl | exact Or.inr rfl) (pe_callTy (T := "list") (call_listK (K := (kt K ad).K) rfl) (by rfl) T.b_list (by decide +kernel) (pa_cons (pv 1) pa_nil)))
      (pss_cons (ps_for (by passes_own) rfl (pi_range1 (by rfl) T.b_range (pa_cons (pe_op (op_addK (K := (kt K ad).K) rfl) pe_int (pe_callG I.take (hr.mono (by omega)) gs (by rfl) T.m__law_take T.k__law_take T.b__law_take .nil passN (pa_cons (pv 0) (pa_cons pe_int pa_nil)))) pa_nil)) (pg_name (i := 4) sc__law_spoilt.nd rfl (by first | exact Or.inl rfl | exact Or.inr rfl)) (pss_one (ps_asg (pe_ix (ix_seqK (K := (kt K ad).K) rfl) (pe_lst (pa_cons pe_int (pa_cons (pe_callGS (E := (Snk.out E).at) I._law_odd (hr.mono (by omega)) gs (by rfl) T.m__law_odd T.k__law_odd T.b__law_odd .nil (px_out (L2N.takes_of rfl rfl rfl rfl)) (pa_cons (pv 0) (pa_cons pe_int pa_nil))) (pa_cons pe_int pa_nil)))) (pe_callG I.take (hr.mono (by omega)) gs (by rfl) T.m__law_take T.k__law_take T.b__law_take .nil passN (pa_cons (pv 0) (pa_cons pe_int pa_nil))) (fun _ _ => rfl)) (pg_sub (pv 3) (pe_callG I.take (hr.mono (by omega)) gs (by rfl) T.m__law_take T.k__law_take T.b__law_take .nil passN (pa_cons (pv 0) (pa_cons pe_int pa_nil))) set_list))))
      (pss_one (ps_ret (pe_lst (pa_cons (pv 3) (pa_cons (pe_ix (ix_seqK (K := (kt K ad).K) rfl) (pe_lc (own := [("_law_k", 5)]) (by rfl) sc__law_spoilt.nd (pi_range1 (by rfl) T.b_range (pa_cons pe_int pa_nil)) (blkOk_by (N := ["_law_hand_here", "_law_sides", "_law_kind", "_law_rows", "_law_turn", "_law_k"]) (sc := defScope s__law_spoilt) (own := [("_law_k", 5)]) (by decide +kernel)) (fun _ _ _ _ _ => (pg_name (i := 5) sc__law_spoilt.nd rfl (by first | exact Or.inl rfl | exact Or.inr rfl))) (fun _ _ _ _ _ => pts_one (pt_not (pt_val (pe_callGS (E := Snk.no.at) I._law_whole (hr.mono (by omega)) gs (by rfl) T.m__law_whole T.k__law_whole T.b__law_whole .nil px_no (pa_cons (pe_ix (ix_seqK (K := (kt K ad).K) rfl) (pv 3) (pv 5) (fun _ _ => rfl)) (pa_cons pe_int (pa_cons pe_int pa_nil))))))) (fun _ _ _ _ _ => (pv 5))) pe_int (fun _ _ => rfl)) pa_nil))))))) pss_nil)
      (pss_one (ps_ret (pe_lst (pa_cons (pv 1) (pa_cons pe_non pa_nil))))))))), ?_⟩
  show _ = (denS (dn (kt K ad) tx (con ad) n E) b__law_spoilt).ts
  unfold b__law_spoilt
  simp only [denS, den, denGp, denI, denB, den2, Dn.of, Dn.wt, cond] <;> rfl
theorem ok_Box___init__ (T : Txt K mg ad) {n : Nat} (I : AllOk Pg w K mg base ad n) : FnG Pg w K mg base (2 * (n + 1) + 2) ad.f_Box___init__ ad.fd_Box___init__ ["self", "sides"] (spRI (kt K ad) tx (n + 1) 6 34) := by
  obtain ⟨_, m_LONGEST_SIDE⟩ := T.m_LONGEST_SIDE
  obtain ⟨_, dv_is_whole_3, bd_is_whole_3⟩ := T.bd_is_whole_3
  refine fn_RI (txok T) rfl rfl T.F_Box___init__ sc_Box___init__ rfl rfl (by decide) fun cdv A outer s H E sx gs hr => ?_
  refine of_ex ⟨_, (pss_cons (ps_if (pt_not (pt_val (pe_callGS (E := (Snk.out E).at) I.is_sequence (hr.mono (by omega)) gs (by rfl) T.m_is_sequence T.k_is_sequence T.b_is_sequence .nil (px_out (L2N.takes_of rfl rfl rfl rfl)) (pa_cons (pv 1) (pa_cons pe_int (pa_cons pe_int pa_nil)))))) (pss_one (L2N.ps_raise rfl (L2N.takes_of rfl rfl rfl rfl) (pmk_oexN T.o_BadBox T.i_BadBox T.t_BadBox (init_BadBox T) (hr.mono (by omega)) T.bi_BadBox .nil pass0 (by rfl) T.m_BadBox (pa_cons pe_int pa_nil)))) pss_nil)
      (pss_cons (ps_for (by passes_own) rfl (pi_enumK (K := (kt K ad).K) rfl (by rfl) T.b_enumerate (pa_cons (pv 1) pa_nil)) (pg_seqK (K := (kt K ad).K) rfl (n := 2) rfl (pgs_cons (pg_name (i := 2) sc_Box___init__.nd rfl (by first | exact Or.inl rfl | exact Or.inr rfl)) (pgs_cons (pg_name (i := 3) sc_Box___init__.nd rfl (by first | exact Or.inl rfl | exact Or.inr rfl)) pgs_nil))) (pss_one (ps_if (pt_not (pt_val (pe_callGS (E := (Snk.out E).at) I.is_whole (hr.mono (by omega)) gs (by rfl) T.m_is_whole T.k_is_whole bd_is_whole_3 dv_is_whole_3 (px_out (L2N.takes_of rfl rfl rfl rfl)) (pa_cons (pv 3) (pa_cons pe_int (pa_cons (pe_glob (v := .int 60) (by rfl) m_LONGEST_SIDE ⟨_, rfl⟩) pa_nil)))))) (pss_one (L2N.ps_raise rfl (L2N.takes_of rfl rfl rfl rfl) (pmk_oexN T.o_BadBox T.i_BadBox T.t_BadBox (init_BadBox T) (hr.mono (by omega)) T.bi_BadBox .nil pass0 (by rfl) T.m_BadBox (pa_cons (pv 2) pa_nil)))) pss_nil)))
      (pss_one (ps_fldK (K := (kt K ad).K) rfl (pv 0) (pe_callTy (T := "tuple") (call_tupK (K := (kt K ad).K) rfl) (by rfl) T.b_tuple (by decide +kernel) (pa_cons (pv 1) pa_nil)))))), ?_⟩
  show _ = (denS { dn (kt K ad) tx (con ad) n E with sx := sx } b_Box___init__).ts
  unfold b_Box___init__
  simp only [denS, den, denGp, denI, denB, den2, Dn.of, Dn.wt, cond] <;> rfl
theorem ok_Box___eq__ (T : Txt K mg ad) {n : Nat} (I : AllOk Pg w K mg base ad n) : FnG Pg w K mg base (2 * (n + 1) + 2) ad.f_Box___eq__ ad.fd_Box___eq__ ["self", "other"] (spR (kt K ad) tx (n + 1) 35) := by
  refine fn_R (txok T) rfl T.F_Box___eq__ sc_Box___eq__ rfl rfl rfl fun cdv A outer s H E gs hr => ?_
  refine of_ex ⟨_, (pss_one (ps_ret (pe_and (pe_callB (call_isiK (K := (kt K ad).K) rfl) (by rfl) T.b_isinstance (by decide +kernel) (pa_cons (pv 1) (pa_cons (pe_glob (v := .ref ad.Box) (by rfl) T.m_Box rfl) pa_nil))) (Ez.pe_and1 (pe_cmpR (op_eqK (K := (kt K ad).K) rfl (Ez.hu64 hr)) (pe_fldK (K := (kt K ad).K) rfl (pv 0)) (pe_fldK (K := (kt K ad).K) rfl (pv 1)) (nomark _)))))), ?_⟩
  show _ = (denS (dn (kt K ad) tx (con ad) n E) b_Box___eq__).ts
  unfold b_Box___eq__
  simp only [denS, den, denGp, denI, denB, den2, Dn.of, Dn.wt, cond] <;> rfl
theorem ok_Box_skin_area (T : Txt K mg ad) {n : Nat} (I : AllOk Pg w K mg base ad n) : FnG Pg w K mg base (2 * (n + 1) + 2) ad.f_Box_skin_area ad.fd_Box_skin_area ["self"] (spR (kt K ad) tx (n + 1) 36) := by
  refine fn_R (txok T) rfl T.F_Box_skin_area sc_Box_skin_area rfl rfl rfl fun cdv A outer s H E gs hr => ?_
  refine of_ex ⟨_, (pss_cons (ps_asg (pe_fldK (K := (kt K ad).K) rfl (pv 0)) (pg_seqK (K := (kt K ad).K) rfl (n := 3) rfl (pgs_cons (pg_name (i := 1) sc_Box_skin_area.nd rfl (by first | exact Or.inl rfl | exact Or.inr rfl)) (pgs_cons (pg_name (i := 2) sc_Box_skin_area.nd rfl (by first | exact Or.inl rfl | exact Or.inr rfl)) (pgs_cons (pg_name (i := 3) sc_Box_skin_area.nd rfl (by first | exact Or.inl rfl | exact Or.inr rfl)) pgs_nil)))))
      (pss_one (ps_ret (pe_op (op_mulK (K := (kt K ad).K) rfl) pe_int (pe_op (op_addK (K := (kt K ad).K) rfl) (pe_op (op_addK (K := (kt K ad).K) rfl) (pe_op (op_mulK (K := (kt K ad).K) rfl) (pv 1) (pv 2)) (pe_op (op_mulK (K := (kt K ad).K) rfl) (pv 2) (pv 3))) (pe_op (op_mulK (K := (kt K ad).K) rfl) (pv 3) (pv 1))))))), ?_⟩
  show _ = (denS (dn (kt K ad) tx (con ad) n E) b_Box_skin_area).ts
  unfold b_Box_skin_area
  simp only [denS, den, denGp, denI, denB, den2, Dn.of, Dn.wt, cond] <;> rfl
theorem ok_Box_corner_places (T : Txt K mg ad) {n : Nat} (I : AllOk Pg w K mg base ad n) : FnG Pg w K mg base (2 * (n + 1) + 2) ad.f_Box_corner_places ad.fd_Box_corner_places ["self"] (spR (kt K ad) tx (n + 1) 37) := by
  refine fn_R (txok T) rfl T.F_Box_corner_places sc_Box_corner_places rfl rfl rfl fun cdv A outer s H E gs hr => ?_
  refine of_ex ⟨_, (pss_cons (ps_setLc (i := 1) (own := [("corner", 2)]) (by rfl) sc_Box_corner_places.nd rfl rfl (sw_true rfl rfl rfl (by decide +kernel)) (pi_range1 (by rfl) T.b_range (pa_cons pe_int pa_nil)) (blkOk_by (N := ["self", "places", "corner", "number", "place"]) (sc := defScope s_Box_corner_places) (own := [("corner", 2)]) (by decide +kernel)) (fun _ _ _ _ _ => (pg_name (i := 2) sc_Box_corner_places.nd rfl (by first | exact Or.inl rfl | exact Or.inr rfl))) (fun _ _ _ _ _ => pts_nil) (fun _ _ _ _ _ => (pe_callGS (E := Snk.no.at) I.corner_numbers (hr.mono (by omega)) gs (by rfl) T.m_corner_numbers T.k_corner_numbers T.b_corner_numbers .nil px_no (pa_cons (pv 0) (pa_cons (pv 2) pa_nil)))))
      (pss_one (ps_ret (pe_callTy (T := "tuple") (call_tupK (K := (kt K ad).K) rfl) (by rfl) T.b_tuple (by decide +kernel) (pa_cons (pe_lc (own := [("place", 4)]) (by rfl) sc_Box_corner_places.nd (pi_seqK (K := (kt K ad).K) rfl (pv 1)) (blkOk_by (N := ["self", "places", "corner", "number", "place"]) (sc := defScope s_Box_corner_places) (own := [("place", 4)]) (by decide +kernel)) (fun _ _ _ _ _ => (pg_name (i := 4) sc_Box_corner_places.nd rfl (by first | exact Or.inl rfl | exact Or.inr rfl))) (fun _ _ _ _ _ => pts_nil) (fun _ _ _ _ _ => (pe_callTy (T := "tuple") (call_tupK (K := (kt K ad).K) rfl) (by rfl) T.b_tuple (by decide +kernel) (pa_cons (pe_lc (own := [("number", 3)]) (by rfl) sc_Box_corner_places.nd (pi_seqK (K := (kt K ad).K) rfl (pv 4)) (blkOk_by (N := ["self", "places", "corner", "number", "place"]) (own := [("number", 3)]) (by exact rfl)) (fun _ _ _ _ _ => (pg_name (i := 3) sc_Box_corner_places.nd rfl (by first | exact Or.inl rfl | exact Or.inr rfl))) (fun _ _ _ _ _ => pts_nil) (fun _ _ _ _ _ => (pe_tup (pa_cons (pv 3) (pa_cons pe_int pa_nil))))) pa_nil)))) pa_nil))))), ?_⟩
  show _ = (denS (dn (kt K ad) tx (con ad) n E) b_Box_corner_places).ts
  unfold b_Box_corner_places
  simp only [denS, den, denGp, denI, denB, den2, Dn.of, Dn.wt, cond] <;> rfl
end K02
set_option Elab.async false
set_option linter.all false
set_option maxRecDepth 100000
set_option maxHeartbeats 3999999
namespace K02
open L2 PySem PyProof.Rows PySem.Spec Ez
section
local macro_rules | `(tactic| walk_at "dzk") => `(tactic| first
  | exact kit_NoneType_bool
  | exact kit_NoneType_int
  | exact kit_NoneType_str
  | exact kit_NoneType_tuple
  | exact kit_NoneType_list
  | exact kit_bool_bool
  | exact kit_bool_int
  | exact kit_bool_str
  | exact kit_bool_tuple
  | exact kit_bool_list
  | exact kit_int_bool
  | exact kit_int_int
  | exact kit_int_str
  | exact kit_int_tuple
  | exact kit_int_list
  | exact kit_str_bool
  | exact kit_str_int
  | exact kit_str_str
  | exact kit_str_tuple
  | exact kit_str_list
  | exact kit_tuple_bool
  | exact kit_tuple_int
  | exact kit_tuple_str
  | exact kit_tuple_tuple
  | exact kit_tuple_list
  | exact kit_list_bool
  | exact kit_list_int
  | exact kit_list_str
  | exact kit_list_tuple
  | exact kit_list_list)
local macro_rules | `(tactic| walk_at "dz!") => `(tactic| first
  | rfl | assumption | decide | (simp only [List.length_cons, List.length_nil, List.length_set]; omega) | (simp; done))
local macro_rules | `(tactic| walk_at "dz") => `(tactic| first
  | with_reducible refine ws_seq ?_
  | with_reducible refine ws_next ?_
  | with_reducible refine ws_ret ?_
  | with_reducible refine ws_retN ?_
  | with_reducible refine ws_if ?_
  | with_reducible refine ws_setO rfl ?_
  | with_reducible refine ws_asg ?_
  | with_reducible refine ws_par ?_
  | ((with_reducible refine wg_name ?_ ?_); (focus walk_at "dz!"))
  | with_reducible refine wg_tup (by with_unfolding_all rfl) ?_
  | with_reducible refine wg_lst (by with_unfolding_all rfl) ?_
  | with_reducible refine wg_cons ?_
  | with_reducible refine wg_nil ?_
  | (with_reducible refine wp_var rfl ?_)
  | with_reducible refine wp_int ?_
  | with_reducible refine wp_bl ?_
  | with_reducible refine wp_str ?_
  | with_reducible refine wp_non ?_
  | with_reducible refine wp_ref (by assumption) ?_
  | with_reducible refine wp_ty ?_
  | with_reducible refine wp_ixO rfl ?_
  | with_reducible refine wp_op ?_
  | with_reducible refine wp_un ?_
  | with_reducible refine wp_if ?_
  | with_reducible refine wp_andV ?_
  | with_reducible refine wp_orV ?_
  | with_reducible refine wp_notV ?_
  | with_reducible refine wp_notT ?_
  | with_reducible refine wp_isN ?_
  | with_reducible refine wp_notN ?_
  | with_reducible refine wp_nil ?_
  | with_reducible refine wp_cons ?_
  | with_reducible refine wp_tup ?_
  | with_reducible refine wp_lst ?_
  | ((with_reducible refine wp_isi2 ?_); dsimp only)
  | with_reducible refine wp_lenO rfl ?_
  | with_reducible refine wp_tupO rfl ?_
  | with_reducible refine wp_cb ?_
  | ((with_reducible refine wp_call0 rfl ?_); dsimp only [List.map, dOf, List.nil_append, List.cons_append, List.append_nil])
  | with_reducible refine wp_chain ?_
  | with_reducible refine wt_test ?_
  | with_reducible refine wt_B ?_
  | with_reducible refine wt_and ?_
  | with_reducible refine wt_or ?_
  | with_reducible refine wt_not ?_
  | with_reducible refine wt_tru ?_
  | with_reducible refine wt_yes ?_
  | with_reducible refine od_i ?_
  | with_reducible refine od_b ?_
  | with_reducible refine od_ixT (by first | with_unfolding_all rfl | exact atI_cons0) ?_
  | with_reducible refine od_ixL (by first | with_unfolding_all rfl | exact atI_cons0) ?_
  | with_reducible refine od_eq (by with_unfolding_all rfl) (by with_unfolding_all rfl) ?_
  | with_reducible refine od_ne (by with_unfolding_all rfl) (by with_unfolding_all rfl) ?_
  | with_reducible refine od_bb ?_
  | with_reducible refine ud_neg ?_
  | with_reducible refine cb_lenT ?_
  | with_reducible refine cb_lenL ?_
  | with_reducible refine cb_abs ?_
  | with_reducible refine cb_int ?_
  | with_reducible refine cb_gcd ?_
  | with_reducible refine cb_min ?_
  | with_reducible refine cb_max ?_
  | with_reducible refine cb_listT ?_
  | with_reducible refine cb_listL ?_
  | with_reducible refine cb_tupT ?_
  | with_reducible refine cb_tupL ?_
  | with_reducible refine cb_isi (by with_unfolding_all rfl) (by walk_at "dzk") ?_
  | with_reducible refine ⟨_, _, _, (by with_unfolding_all rfl), (by walk_at "dzk"), (by walk_at "dzk"), ?_⟩
  | with_reducible refine ix_of (by with_unfolding_all rfl) ?_
  | with_reducible refine st_of (by with_unfolding_all rfl) ?_
  | with_reducible refine od_pow (by decide) ?_
  | with_reducible refine Exists.intro _ (And.intro rfl ?_))
local macro_rules | `(tactic| walk_at "dz0") => `(tactic| dsimp only [cxOf, Cx.tr, Cx.suite, Cx.nox, Cx.blk, Pm.fn, slots, List.map, List.length, List.replicate, Nat.reduceAdd, Nat.reduceSub, List.cons_append, List.nil_append, List.append_nil, dOf])
local macro_rules | `(tactic| walk_at "dzb") => `(tactic| first
  | with_reducible refine br_t ?_
  | with_reducible refine br_f ?_
  | with_reducible refine br_t2 ?_
  | with_reducible refine br_f2 ?_
  | (with_reducible refine br_d ?_ ?_ <;> intro _)
  | (with_reducible refine br_d2 ?_ ?_ <;> intro _)
  | refine br_t ?_
  | refine br_f ?_
  | refine br_t2 ?_
  | refine br_f2 ?_
  | (with_reducible refine br_b ?_ ?_ <;> intro _)
  | (with_reducible refine br_b2 ?_ ?_ <;> intro _))
local macro_rules | `(tactic| walk_at "dz*") => `(tactic| repeat' (first
  | walk_at "dz"
  | walk_at "dzb"
  | (refine And.intro (show _ ≤ 10000 by (first | decide | (simp; done))) ?_)
  | dsimp only))
variable {Pg : Program} {w : World} {K : PySem.W.Frag} {mg : Str → Option Value} {base : Heap} {ad : Ad}
abbrev pm_mixed : Pm := .f2 (fun _ x y => ∃ a b, x = .int a ∧ y = .int b ∧ Bd 100 a ∧ Bd 100 b) (fun _ _ r => ∃ v, r = .int v ∧ 0 ≤ v)
theorem ok_mixed (T : Txt K mg ad) (p : Addr) : FnOk Pg w K mg base (L2N.CX Pg w) 1 ad.f__law_mixed ad.fd__law_mixed ["_law_number", "_law_turn"] (spD (kp (kt K ad) p) pm_mixed) := by
  refine fn_D (K := kp (kt K ad) p) T.F__law_mixed sc__law_mixed (fun W ds h => ?_) fun cdv A outer s E W G H ds hr o hp hx => ?_
  · obtain ⟨a, b, rfl, _⟩ := Pm.l2 h; rfl
  obtain ⟨_, _, rfl, a, b, rfl, rfl, za, zb⟩ := Pm.l2 hp
  refine ⟨_, (pss_cons (ps_set (i := 2) sc__law_mixed.nd rfl (by first | exact Or.inl rfl | exact Or.inr rfl) (pe_op op_mod (pe_callTy (T := "int") call_int1 (by rfl) T.b_int (by decide +kernel) (pa_cons (pe_op op_add (pe_op op_add (pe_op op_mulW (pv 0) pe_int) (pe_op op_mulW (pv 1) pe_int)) pe_int) pa_nil)) pe_int))
      (pss_cons (ps_set (i := 3) sc__law_mixed.nd rfl (by first | exact Or.inl rfl | exact Or.inr rfl) (pe_op op_mod (pe_callTy (T := "int") call_int1 (by rfl) T.b_int (by decide +kernel) (pa_cons (pe_op op_add (pe_op op_add (pe_op op_mulW (pv 2) (pv 2)) (pe_op op_mulW (pv 1) pe_int)) (pe_op op_fdivW (pv 2) pe_int)) pa_nil)) pe_int))
      (pss_one (ps_ret (pe_op op_fdivW (pe_callTy (T := "int") call_int1 (by rfl) T.b_int (by decide +kernel) (pa_cons (pe_op op_mod (pe_callTy (T := "int") call_int1 (by rfl) T.b_int (by decide +kernel) (pa_cons (pe_op op_add (pe_op op_mulW (pv 3) pe_int) (pe_op op_fdivW (pv 2) pe_int)) pa_nil)) pe_int) pa_nil)) pe_int))))), ?_⟩
  walk_at "dz0"
  walk_at "dz*"
  refine od_ci (CMulW.of za (Bd.lit (n := 20) (by decide)) (by decide)) ?_
  walk_at "dz*"
  refine od_ci (CMulW.of zb (Bd.lit (n := 20) (by decide)) (by decide)) ?_
  walk_at "dz*"
  refine od_modF (by decide) fun x x0 x1 => ?_
  have zx : Bd 40 x := .of_range x0 x1 (.lit (by decide))
  walk_at "dz*"
  refine od_ci (CMulW.of zx zx (by decide)) ?_
  walk_at "dz*"
  refine od_ci (CMulW.of zb (Bd.lit (n := 20) (by decide)) (by decide)) ?_
  walk_at "dz*"
  refine od_divF (n := 20) (by decide) (.lit (by decide)) (by decide) fun u u0 u1 => ?_
  walk_at "dz*"
  refine od_modF (by decide) fun y y0 y1 => ?_
  have zy : Bd 40 y := .of_range y0 y1 (.lit (by decide))
  walk_at "dz*"
  refine od_ci (CMulW.of zy (Bd.lit (n := 20) (by decide)) (by decide)) ?_
  walk_at "dz*"
  refine od_divF (n := 20) (by decide) (.lit (by decide)) (by decide) fun u u0 u1 => ?_
  walk_at "dz*"
  refine od_modF (by decide) fun z z0 z1 => ?_
  walk_at "dz*"
  refine od_divF (n := 20) (by decide) (.lit (by decide)) (by decide) fun v v0 v1 => ?_
  exact ⟨v, rfl, (v0 z0).1⟩
theorem cell_at {cells : List Int} {i : Int} (h0 : 0 ≤ i) (h1 : i < (cells.length : Int)) : ∃ c, c ∈ cells ∧ atI (cells.map D.int) i = some (.int c) := by
  obtain ⟨jj, rfl⟩ := Int.eq_ofNat_of_zero_le h0
  have hj : jj < cells.length := by omega
  refine ⟨cells[jj], List.getElem_mem hj, ?_⟩
  refine atI_nat ?_
  rw [List.getElem?_map, List.getElem?_eq_getElem hj]; rfl
theorem ok_take (T : Txt K mg ad) (p : Addr) : FnOk Pg w K mg base (L2N.CX Pg w) 2 ad.f__law_take ad.fd__law_take ["_law_hand_here", "_law_many"] (spD (kp (kt K ad) p) (pmTake (kp (kt K ad) p))) := by
  have G__law_mixed := ok_mixed (Pg := Pg) (w := w) (base := base) T p
  refine fn_hand (K := kp (kt K ad) p) T.F__law_take sc__law_take (fun W ds h => by obtain ⟨a, b, rfl, _⟩ := Pm.l2 h; rfl) (fun W ds h => by obtain ⟨_, b, rfl, p, m, rfl, rfl, _, _, rfl⟩ := Pm.l2 h; exact ⟨p, _, rfl, rfl⟩) fun cdv A outer s E G H a es hds hr hp hi => ?_
  obtain ⟨cells, i, r, t, rfl, ok⟩ := hi
  obtain ⟨_, _, e1, p1, m, e2, rfl, m0, zm, _⟩ := Pm.l2 hp
  cases e2; cases e1
  refine ⟨_, (pss_cons (ps_if (pw_and (pt_cmpR (op_eqD (Ez.hu64 hr)) (pe_ix ix_seq (pv 0) pe_int (fun _ _ => rfl)) pe_int (nomark _)) (pw_and1 (pt_cmpR op_lt (pe_ix ix_seq (pv 0) pe_int (fun _ _ => rfl)) (pe_callB call_len_seq (by rfl) T.b_len (by decide +kernel) (pa_cons (pe_ix ix_seq (pv 0) pe_int (fun _ _ => rfl)) pa_nil)) (nomark _)))).pt (pss_cons (ps_set (i := 2) sc__law_take.nd rfl (by first | exact Or.inl rfl | exact Or.inr rfl) (pe_ix ix_seq (pe_ix ix_seq (pv 0) pe_int (fun _ _ => rfl)) (pe_ix ix_seq (pv 0) pe_int (fun _ _ => rfl)) (fun _ _ => rfl)))
      (pss_cons (ps_asg (pe_op op_add (pe_ix ix_seq (pv 0) pe_int (fun _ _ => rfl)) pe_int) (pg_sub (pv 0) pe_int set_list))
      (pss_cons (ps_if (pt_cmpR op_lt (pv 2) (pe_op op_pow pe_int pe_int) (nomark _)) (pss_one (ps_ret (pe_op op_mod (pe_callTy (T := "int") call_int1 (by rfl) T.b_int (by decide +kernel) (pa_cons (pe_call G__law_mixed (hr.mono (by first | decide | exact Nat.le_refl _)) (by rfl) T.m__law_mixed T.k__law_mixed T.b__law_mixed .nil passN (pa_cons (pe_op op_mod (pe_callTy (T := "int") call_int1 (by rfl) T.b_int (by decide +kernel) (pa_cons (pv 2) pa_nil)) pe_int) (pa_cons (pe_ix ix_seq (pv 0) pe_int (fun _ _ => rfl)) pa_nil))) pa_nil)) (pv 1)))) pss_nil)
      (pss_one (ps_asg (pv 2) (pg_sub (pv 0) pe_int set_list)))))) pss_nil)
      (pss_cons (ps_if (pt_cmpR op_gt (pe_ix ix_seq (pv 0) pe_int (fun _ _ => rfl)) pe_int (nomark _)) (pss_cons (ps_set (i := 3) sc__law_take.nd rfl (by first | exact Or.inl rfl | exact Or.inr rfl) (pe_ix ix_seq (pv 0) pe_int (fun _ _ => rfl)))
      (pss_cons (ps_asg (pe_op op_fdivW (pe_callTy (T := "int") call_int1 (by rfl) T.b_int (by decide +kernel) (pa_cons (pv 3) pa_nil)) (pv 1)) (pg_sub (pv 0) pe_int set_list))
      (pss_one (ps_ret (pe_op op_mod (pe_callTy (T := "int") call_int1 (by rfl) T.b_int (by decide +kernel) (pa_cons (pv 3) pa_nil)) (pv 1)))))) pss_nil)
      (pss_cons (ps_asg (pe_op op_mod (pe_callTy (T := "int") call_int1 (by rfl) T.b_int (by decide +kernel) (pa_cons (pe_op op_add (pe_ix ix_seq (pv 0) pe_int (fun _ _ => rfl)) pe_int) pa_nil)) pe_int) (pg_sub (pv 0) pe_int set_list))
      (pss_one (ps_ret (pe_op op_mod (pe_callTy (T := "int") call_int1 (by rfl) T.b_int (by decide +kernel) (pa_cons (pe_call G__law_mixed (hr.mono (by first | decide | exact Nat.le_refl _)) (by rfl) T.m__law_mixed T.k__law_mixed T.b__law_mixed .nil passN (pa_cons (pe_ix ix_seq (pv 0) pe_int (fun _ _ => rfl)) (pa_cons (pe_ix ix_seq (pv 0) pe_int (fun _ _ => rfl)) pa_nil))) pa_nil)) (pv 1))))))), ?_⟩
  have zi : ∀ x : Int, 0 ≤ x → x < 1000 → Bd 100 x := fun x h0 h1 => .of_range h0 h1 (.lit (by decide))
  walk_at "dz0"
  walk_at "dz*"
  · rename_i hi
    rw [List.length_map] at hi
    obtain ⟨c, hc, e⟩ := cell_at ok.i0 hi
    have c0 := ok.c0 c hc
    refine od_ixL e ?_
    walk_at "dz*"
    · refine od_modF (by decide) fun x x0 x1 => ?_
      walk_at "dz*"
      refine ⟨⟨x, i + 1, rfl, rfl, .of_range x0 x1 (.lit (by decide)), zi (i + 1) (by have := ok.i0; omega) (by have := ok.i1; have := ok.many; omega)⟩, ?_, fun _ _ _ h => h⟩
      rintro _ ⟨v, rfl, v0⟩
      walk_at "dz*"
      refine od_modF m0 fun y y0 y1 => ?_
      exact ⟨⟨_, rfl, cells, i + 1, r, t, rfl, ⟨ok.many, by have := ok.i0; omega, by omega, ok.r0, ok.t0, ok.t1, ok.c0⟩⟩, m, y, rfl, rfl, y0, y1⟩
    ·
      refine od_divF m0 zm (by decide) fun u u0 u1 => ?_
      walk_at "dz*"
      refine od_modF m0 fun y y0 y1 => ?_
      exact ⟨⟨_, rfl, cells, i + 1, u, t, rfl, ⟨ok.many, by have := ok.i0; omega, by have := ok.i1; omega, (u0 (by have := ok.r0; omega)).1, ok.t0, ok.t1, ok.c0⟩⟩, m, y, rfl, rfl, y0, y1⟩
    ·
      refine od_modF (by decide) fun u u0 u1 => ?_
      walk_at "dz*"
      refine ⟨⟨u, i + 1, rfl, rfl, .of_range u0 u1 (.lit (by decide)), zi (i + 1) (by have := ok.i0; omega) (by have := ok.i1; have := ok.many; omega)⟩, ?_, fun _ _ _ h => h⟩
      rintro _ ⟨v, rfl, v0⟩
      walk_at "dz*"
      refine od_modF m0 fun y y0 y1 => ?_
      exact ⟨⟨_, rfl, cells, i + 1, c, u, rfl, ⟨ok.many, by have := ok.i0; omega, by have := ok.i1; omega, by have := ok.r0; omega, u0, u1, ok.c0⟩⟩, m, y, rfl, rfl, y0, y1⟩
  ·
    refine od_divF m0 zm (by decide) fun u u0 u1 => ?_
    walk_at "dz*"
    refine od_modF m0 fun y y0 y1 => ?_
    exact ⟨⟨_, rfl, cells, i, u, t, rfl, ⟨ok.many, by have := ok.i0; omega, by have := ok.i1; omega, (u0 (by have := ok.r0; omega)).1, ok.t0, ok.t1, ok.c0⟩⟩, m, y, rfl, rfl, y0, y1⟩
  ·
    refine od_modF (by decide) fun u u0 u1 => ?_
    walk_at "dz*"
    refine ⟨⟨u, i, rfl, rfl, .of_range u0 u1 (.lit (by decide)), zi i (by have := ok.i0; omega) (by have := ok.i1; have := ok.many; omega)⟩, ?_, fun _ _ _ h => h⟩
    rintro _ ⟨v, rfl, v0⟩
    walk_at "dz*"
    refine od_modF m0 fun y y0 y1 => ?_
    exact ⟨⟨_, rfl, cells, i, r, u, rfl, ⟨ok.many, by have := ok.i0; omega, by have := ok.i1; omega, by have := ok.r0; omega, u0, u1, ok.c0⟩⟩, m, y, rfl, rfl, y0, y1⟩
  ·
    refine od_divF m0 zm (by decide) fun u u0 u1 => ?_
    walk_at "dz*"
    refine od_modF m0 fun y y0 y1 => ?_
    exact ⟨⟨_, rfl, cells, i, u, t, rfl, ⟨ok.many, by have := ok.i0; omega, by have := ok.i1; omega, (u0 (by have := ok.r0; omega)).1, ok.t0, ok.t1, ok.c0⟩⟩, m, y, rfl, rfl, y0, y1⟩
  ·
    refine od_modF (by decide) fun u u0 u1 => ?_
    walk_at "dz*"
    refine ⟨⟨u, i, rfl, rfl, .of_range u0 u1 (.lit (by decide)), zi i (by have := ok.i0; omega) (by have := ok.i1; have := ok.many; omega)⟩, ?_, fun _ _ _ h => h⟩
    rintro _ ⟨v, rfl, v0⟩
    walk_at "dz*"
    refine od_modF m0 fun y y0 y1 => ?_
    exact ⟨⟨_, rfl, cells, i, r, u, rfl, ⟨ok.many, by have := ok.i0; omega, by have := ok.i1; omega, by have := ok.r0; omega, u0, u1, ok.c0⟩⟩, m, y, rfl, rfl, y0, y1⟩
end
section
local macro_rules | `(tactic| walk_at "bd") => `(tactic| first
  | assumption
  | exact Bd.one
  | (apply Bd.neg; walk_at "bd")
  | (apply Bd.mul <;> walk_at "bd")
  | (apply Bd.add2 <;> walk_at "bd")
  | (apply Bd.sub2 <;> walk_at "bd")
  | (apply Bd.ediv; walk_at "bd")
  | exact Bd.lit (n := 20) (by decide))
local macro_rules | `(tactic| walk_at "dzm") => `(tactic| refine od_ci (CMulW.of (by walk_at "bd") (by walk_at "bd") (by decide)) ?_)
local macro_rules | `(tactic| walk_at "dzk") => `(tactic| first
  | exact kit_NoneType_bool
  | exact kit_NoneType_int
  | exact kit_NoneType_str
  | exact kit_NoneType_tuple
  | exact kit_NoneType_list
  | exact kit_bool_bool
  | exact kit_bool_int
  | exact kit_bool_str
  | exact kit_bool_tuple
  | exact kit_bool_list
  | exact kit_int_bool
  | exact kit_int_int
  | exact kit_int_str
  | exact kit_int_tuple
  | exact kit_int_list
  | exact kit_str_bool
  | exact kit_str_int
  | exact kit_str_str
  | exact kit_str_tuple
  | exact kit_str_list
  | exact kit_tuple_bool
  | exact kit_tuple_int
  | exact kit_tuple_str
  | exact kit_tuple_tuple
  | exact kit_tuple_list
  | exact kit_list_bool
  | exact kit_list_int
  | exact kit_list_str
  | exact kit_list_tuple
  | exact kit_list_list)
local macro_rules | `(tactic| walk_at "dz!") => `(tactic| first
  | rfl | assumption | decide | (simp only [List.length_cons, List.length_nil, List.length_set]; omega) | (simp; done))
local macro_rules | `(tactic| walk_at "dz") => `(tactic| first
  | with_reducible refine ws_seq ?_
  | with_reducible refine ws_next ?_
  | with_reducible refine ws_ret ?_
  | with_reducible refine ws_retN ?_
  | with_reducible refine ws_if ?_
  | with_reducible refine ws_setO rfl ?_
  | with_reducible refine ws_asg ?_
  | ((with_reducible refine ws_own ?_ ?_); (focus walk_at "dz!"))
  | with_reducible refine wf_lst ?_
  | with_reducible refine ws_app rfl ?_
  | with_reducible refine wp_slL ?_
  | with_reducible refine wo_none ?_
  | with_reducible refine wo_some ?_
  | with_reducible refine cb_lenS ?_
  | with_reducible refine ws_par ?_
  | ((with_reducible refine wg_name ?_ ?_); (focus walk_at "dz!"))
  | with_reducible refine wg_tup (by with_unfolding_all rfl) ?_
  | with_reducible refine wg_lst (by with_unfolding_all rfl) ?_
  | with_reducible refine wg_cons ?_
  | with_reducible refine wg_nil ?_
  | (with_reducible refine wp_var rfl ?_)
  | with_reducible refine wp_int ?_
  | with_reducible refine wp_bl ?_
  | with_reducible refine wp_str ?_
  | with_reducible refine wp_non ?_
  | with_reducible refine wp_ref (by assumption) ?_
  | with_reducible refine wp_ty ?_
  | with_reducible refine wp_ixO rfl ?_
  | with_reducible refine wp_op ?_
  | with_reducible refine wp_un ?_
  | with_reducible refine wp_andV ?_
  | with_reducible refine wp_orV ?_
  | with_reducible refine wp_notV ?_
  | with_reducible refine wp_notT ?_
  | with_reducible refine wp_isN ?_
  | with_reducible refine wp_notN ?_
  | with_reducible refine wp_nil ?_
  | with_reducible refine wp_cons ?_
  | with_reducible refine wp_tup ?_
  | with_reducible refine wp_lst ?_
  | ((with_reducible refine wp_isi2 ?_); dsimp only)
  | with_reducible refine wp_lenO rfl ?_
  | with_reducible refine wp_tupO rfl ?_
  | with_reducible refine wp_cb ?_
  | ((with_reducible refine wp_call0 rfl ?_); dsimp only [List.map, dOf, List.nil_append, List.cons_append, List.append_nil])
  | with_reducible refine wp_chain ?_
  | with_reducible refine wt_test ?_
  | with_reducible refine wt_B ?_
  | with_reducible refine wt_and ?_
  | with_reducible refine wt_or ?_
  | with_reducible refine wt_not ?_
  | with_reducible refine wt_tru ?_
  | with_reducible refine wt_yes ?_
  | with_reducible refine od_i ?_
  | with_reducible refine od_b ?_
  | with_reducible refine od_ixT (by first | with_unfolding_all rfl | exact atI_cons0) ?_
  | with_reducible refine od_ixL (by first | with_unfolding_all rfl | exact atI_cons0) ?_
  | with_reducible refine od_eqI ?_
  | with_reducible refine od_neI ?_
  | with_reducible refine od_eq_same (by with_unfolding_all rfl) ?_
  | with_reducible refine od_ne_same (by with_unfolding_all rfl) ?_
  | with_reducible refine od_eq (by with_unfolding_all rfl) (by with_unfolding_all rfl) ?_
  | with_reducible refine od_ne (by with_unfolding_all rfl) (by with_unfolding_all rfl) ?_
  | with_reducible refine od_bb ?_
  | with_reducible refine ud_neg ?_
  | with_reducible refine cb_lenT ?_
  | with_reducible refine cb_lenL ?_
  | with_reducible refine cb_abs ?_
  | with_reducible refine cb_int ?_
  | with_reducible refine cb_gcd ?_
  | with_reducible refine cb_min ?_
  | with_reducible refine cb_max ?_
  | with_reducible refine cb_listT ?_
  | with_reducible refine cb_listL ?_
  | with_reducible refine cb_tupT ?_
  | with_reducible refine cb_tupL ?_
  | with_reducible refine cb_isi (by with_unfolding_all rfl) (by walk_at "dzk") ?_
  | with_reducible refine ⟨_, _, _, (by with_unfolding_all rfl), (by walk_at "dzk"), (by walk_at "dzk"), ?_⟩
  | with_reducible refine ix_of (by with_unfolding_all rfl) ?_
  | with_reducible refine st_of (by with_unfolding_all rfl) ?_
  | with_reducible refine od_pow (by decide) ?_
  | with_reducible refine Exists.intro _ (And.intro rfl ?_))
local macro_rules | `(tactic| walk_at "dz0") => `(tactic| dsimp only [cxOf, Cx.tr, Cx.suite, Cx.nox, Cx.blk, Pm.fn, slots, List.map, List.length, List.replicate, Nat.reduceAdd, Nat.reduceSub, List.cons_append, List.nil_append, List.append_nil, dOf])
local macro_rules | `(tactic| walk_at "dzb") => `(tactic| first
  | with_reducible refine br_t ?_
  | with_reducible refine br_f ?_
  | with_reducible refine br_t2 ?_
  | with_reducible refine br_f2 ?_
  | (with_reducible refine br_d ?_ ?_ <;> intro _)
  | (with_reducible refine br_d2 ?_ ?_ <;> intro _)
  | (with_reducible refine br_nd ?_ ?_ <;> intro h <;> first | with_reducible exact absurd rfl h | skip)
  | (with_reducible refine br_nd2 ?_ ?_ <;> intro h <;> first | with_reducible exact absurd rfl h | skip)
  | refine br_t ?_
  | refine br_f ?_
  | refine br_t2 ?_
  | refine br_f2 ?_
  | (with_reducible refine br_b ?_ ?_ <;> intro _)
  | (with_reducible refine br_b2 ?_ ?_ <;> intro _))
local macro_rules | `(tactic| walk_at "dz-") => `(tactic| repeat' (first
  | walk_at "dz"
  | walk_at "dzb"
  | ((refine And.intro ?_ ?_); (focus (show _ ≤ 10000; first | decide | (simp; done) | (simp; omega))))
  | dsimp only))
local macro_rules | `(tactic| walk_at "dz*") => `(tactic| repeat' (first
  | walk_at "dz"
  | with_reducible refine wp_if ?_
  | walk_at "dzb"
  | ((refine And.intro ?_ ?_); (focus (show _ ≤ 10000; first | decide | (simp; done) | (simp; omega))))
  | dsimp only))
variable {Pg : Program} {w : World} {K : PySem.W.Frag} {mg : Str → Option Value} {base : Heap} {ad : Ad}
theorem ok_new (T : Txt K mg ad) : FnOk Pg w K mg base (L2N.CX Pg w) 1 ad.f__law_hand ad.fd__law_hand ["_law_script"] (spNew (kp (kt K ad) 0)) := by
  refine fn_new (K := kp (kt K ad) 0) T.F__law_hand sc__law_hand rfl fun cdv A outer s E G H ns hr hz => ?_
  refine ⟨_, (pss_cons (ps_set (i := 1) sc__law_hand.nd rfl (by first | exact Or.inl rfl | exact Or.inr rfl) (pe_op op_add (pe_op op_mulW pe_int (pe_callB call_len_seq (by rfl) T.b_len (by decide +kernel) (pa_cons (pv 0) pa_nil))) pe_int))
      (pss_cons (Ez.ps_own (ps_set (i := 2) sc__law_hand.nd rfl (by first | exact Or.inl rfl | exact Or.inr rfl) (pe_lst pa_nil)))
      (pss_cons (ps_for (by passes_own) rfl (pi_list (pv 0)) (pg_name (i := 3) sc__law_hand.nd rfl (by first | exact Or.inl rfl | exact Or.inr rfl)) (pss_cons (ps_set (i := 1) sc__law_hand.nd rfl (by first | exact Or.inl rfl | exact Or.inr rfl) (pe_op op_mod (pe_callTy (T := "int") call_int1 (by rfl) T.b_int (by decide +kernel) (pa_cons (pe_op op_add (pe_op op_mulW (pv 1) pe_int) (pe_callTy (T := "int") call_int1 (by rfl) T.b_int (by decide +kernel) (pa_cons (pv 3) pa_nil))) pa_nil)) pe_int))
      (pss_one (ps_expr (pe_bm PySem.F.plainAttrs_list PySem.F.slot_list_append PySem.F.type_list_append mt_append (pv 2) (pa_cons (pe_callB call_abs (by rfl) T.b_abs (by decide +kernel) (pa_cons (pe_callTy (T := "int") call_int1 (by rfl) T.b_int (by decide +kernel) (pa_cons (pv 3) pa_nil)) pa_nil)) pa_nil))))))
      (pss_one (Ez.ps_retF (ps_ret (pe_lst (pa_cons (pv 2) (pa_cons pe_int (pa_cons pe_int (pa_cons (pv 1) pa_nil))))))))))), ?_⟩
  have hl : (ns.map D.int).length = ns.length := List.length_map ..
  have zl : Bd 20 ((ns.map D.int).length : Int) := Bd.le (j := 100) (.lit (by decide)) (by omega)
  walk_at "dz0"
  walk_at "dz-"
  walk_at "dzm"
  walk_at "dz-"
  intro a
  walk_at "dz-"
  refine ws_forS ?_
  walk_at "dz-"
  refine ⟨fun i q => ∃ t cs z, q = [.dat (.scr (ns.map D.int)), .dat (.int t), .own a (cs.map D.int), z] ∧ 0 ≤ t ∧ t < 2147483549 ∧ cs.length = i ∧ ∀ x ∈ cs, (0 : Int) ≤ x, ⟨_, [], _, rfl, by omega, by omega, rfl, by simp⟩, ?_, ?_⟩
  · rintro i x _ hi ⟨t, cs, z, rfl, t0, t1, hc, h0⟩
    have zt : Bd 40 t := .of_range t0 t1 (.lit (by decide))
    obtain ⟨n, hn, rfl⟩ : ∃ n, ns[i]? = some n ∧ x = .int n := by
      rw [List.getElem?_map] at hi
      cases e : ns[i]? with
      | none => rw [e] at hi; cases hi
      | some n => rw [e] at hi; cases hi; exact ⟨n, rfl, rfl⟩
    have ilt := (List.getElem?_eq_some_iff.mp hn).1
    walk_at "dz-"
    walk_at "dzm"
    walk_at "dz-"
    refine od_modF (by decide) fun u u0 u1 => ?_
    walk_at "dz-"
    refine ⟨u, cs ++ [if n < 0 then -n else n], .dat (.int n), ?_, u0, u1, by rw [List.length_append, hc]; rfl, ?_⟩
    · rw [List.map_append]; rfl
    · intro x hx
      rcases List.mem_append.mp hx with hy | hx
      · exact h0 x hy
      · cases List.mem_singleton.mp hx
        split <;> omega
  · rintro _ ⟨t, cs, z, rfl, t0, t1, hc, h0⟩
    walk_at "dz-"
    refine ws_keep (i := 2) rfl ?_
    refine ws_retO 1 (by simp) ?_
    walk_at "dz-"
    refine fun a => ⟨1, a, _, rfl, rfl, cs, 0, 0, t, rfl, ⟨by omega, by decide, by omega, by decide, t0, t1, h0⟩⟩
theorem g_take (T : Txt K mg ad) (k : Nat) (hk : 2 ≤ k) : FnG Pg w K mg base k ad.f__law_take ad.fd__law_take ["_law_hand_here", "_law_many"] (spTake (kt K ad)) := FnG.ex (K := kp (kt K ad) 0) fun p => FnG.mono (K := kp (kt K ad) 0) (FnG.of (K := kp (kt K ad) 0) (ok_take T p)) hk
theorem g_hand (T : Txt K mg ad) (k : Nat) (hk : 1 ≤ k) : FnG Pg w K mg base k ad.f__law_hand ad.fd__law_hand ["_law_script"] (spNew (kp (kt K ad) 0)) := FnG.mono (K := kp (kt K ad) 0) (FnG.of (K := kp (kt K ad) 0) (ok_new T)) hk
end
end K02
set_option Elab.async false
set_option linter.all false
set_option maxRecDepth 100000
set_option maxHeartbeats 3999999
namespace K02
open L2 PySem PyProof.Rows PySem.Spec Ez
variable {Pg : Program} {w : World} {K : PySem.W.Frag} {mg : Str → Option Value} {base : Heap} {ad : Ad}
theorem any_of (T : Txt K mg ad) {n : Nat} (G_are_beside : FnG Pg w K mg base (2 * n + 2) ad.f_are_beside ad.fd_are_beside ["face", "other"] (spR (kt K ad) tx n 7)) (G_check_corner : FnG Pg w K mg base (2 * n + 2) ad.f_check_corner ad.fd_check_corner ["corner"] (spR (kt K ad) tx n 3)) (G_check_edge : FnG Pg w K mg base (2 * n + 2) ad.f_check_edge ad.fd_check_edge ["edge"] (spR (kt K ad) tx n 11)) (G_check_face : FnG Pg w K mg base (2 * n + 2) ad.f_check_face ad.fd_check_face ["face"] (spR (kt K ad) tx n 2)) (G_edge_between : FnG Pg w K mg base (2 * n + 2) ad.f_edge_between ad.fd_edge_between ["face", "beside"] (spR (kt K ad) tx n 13)) (G_face_axes : FnG Pg w K mg base (2 * n + 2) ad.f_face_axes ad.fd_face_axes ["face"] (spR (kt K ad) tx n 6)) (G_faces_beside : FnG Pg w K mg base (2 * n + 2) ad.f_faces_beside ad.fd_faces_beside ["face"] (spR (kt K ad) tx n 8)) (G_faces_of_corner : FnG Pg w K mg base (2 * n + 2) ad.f_faces_of_corner ad.fd_faces_of_corner ["corner"] (spR (kt K ad) tx n 9)) (G_faces_of_edge : FnG Pg w K mg base (2 * n + 2) ad.f_faces_of_edge ad.fd_faces_of_edge ["edge"] (spR (kt K ad) tx n 12)) : ∀ f, tx.ok f = true → ∃ (fd : FuncData) (ps : List Str), FnG Pg w K mg base (2 * n + 2) ((kt K ad).fn f) fd ps (spR (kt K ad) tx n f) ∧ PySem.W.keepIn K (.ref ((kt K ad).fn f)) = true ∧ Binds K fd ps [] := by
  intro f h
  have z : f ∈ [7, 3, 11, 2, 13, 6, 8, 9, 12] := by simpa [tx] using h
  simp only [List.mem_cons, List.not_mem_nil, or_false] at z
  rcases z with rfl | rfl | rfl | rfl | rfl | rfl | rfl | rfl | rfl
  · exact ⟨_, _, G_are_beside, T.k_are_beside, T.b_are_beside⟩
  · exact ⟨_, _, G_check_corner, T.k_check_corner, T.b_check_corner⟩
  · exact ⟨_, _, G_check_edge, T.k_check_edge, T.b_check_edge⟩
  · exact ⟨_, _, G_check_face, T.k_check_face, T.b_check_face⟩
  · exact ⟨_, _, G_edge_between, T.k_edge_between, T.b_edge_between⟩
  · exact ⟨_, _, G_face_axes, T.k_face_axes, T.b_face_axes⟩
  · exact ⟨_, _, G_faces_beside, T.k_faces_beside, T.b_faces_beside⟩
  · exact ⟨_, _, G_faces_of_corner, T.k_faces_of_corner, T.b_faces_of_corner⟩
  · exact ⟨_, _, G_faces_of_edge, T.k_faces_of_edge, T.b_faces_of_edge⟩
theorem all_ok (T : Txt K mg ad) : ∀ n, AllOk Pg w K mg base ad n
  | 0 => ⟨g_take T _ (by omega), fn_run0 (B := kt K ad), fn_run0 (B := kt K ad), fn_run0 (B := kt K ad), fn_run0 (B := kt K ad), fn_run0 (B := kt K ad), fn_run0 (B := kt K ad), fn_run0 (B := kt K ad), fn_run0 (B := kt K ad), fn_run0 (B := kt K ad), fn_run0 (B := kt K ad), fn_run0 (B := kt K ad), fn_run0 (B := kt K ad), fn_run0 (B := kt K ad), fn_run0 (B := kt K ad), fn_run0 (B := kt K ad), fn_run0 (B := kt K ad), fn_run0 (B := kt K ad), fn_run0 (B := kt K ad), fn_run0 (B := kt K ad), fn_run0 (B := kt K ad), fn_run0 (B := kt K ad), fn_run0 (B := kt K ad), fn_run0 (B := kt K ad), fn_run0 (B := kt K ad), fn_run0 (B := kt K ad), fn_run0 (B := kt K ad), fn_run0 (B := kt K ad), fn_run0 (B := kt K ad), fn_run0 (B := kt K ad), fn_run0 (B := kt K ad), fn_runI0 (B := kt K ad), fn_run0 (B := kt K ad), fn_run0 (B := kt K ad), fn_run0 (B := kt K ad), any_of T (fn_run0 (B := kt K ad)) (fn_run0 (B := kt K ad)) (fn_run0 (B := kt K ad)) (fn_run0 (B := kt K ad)) (fn_run0 (B := kt K ad)) (fn_run0 (B := kt K ad)) (fn_run0 (B := kt K ad)) (fn_run0 (B := kt K ad)) (fn_run0 (B := kt K ad))⟩
  | n + 1 => by
    have I := all_ok T n
    have G_is_whole := ok_is_whole T I
    have G_is_sequence := ok_is_sequence T I
    have G_check_face := ok_check_face T I
    have G_check_corner := ok_check_corner T I
    have G_corner_bit := ok_corner_bit T I
    have G_corner_numbers := ok_corner_numbers T I
    have G_face_axes := ok_face_axes T I
    have G_are_beside := ok_are_beside T I
    have G_faces_beside := ok_faces_beside T I
    have G_faces_of_corner := ok_faces_of_corner T I
    have G_all_edges := ok_all_edges T I
    have G_check_edge := ok_check_edge T I
    have G_faces_of_edge := ok_faces_of_edge T I
    have G_edge_between := ok_edge_between T I
    have G_edge_ends := ok_edge_ends T I
    have G__law_axes := ok__law_axes T I
    have G__law_tuples := ok__law_tuples T I
    have G__law_odd := ok__law_odd T I
    have G__law_rid := ok__law_rid T I
    have G__law_whole := ok__law_whole T I
    have G__law_bits := ok__law_bits T I
    have G__law_shaped := ok__law_shaped T I
    have G__law_box := ok__law_box T I
    have G__law_asked := ok__law_asked T I
    have G__law_between := ok__law_between T I
    have G__law_plain := ok__law_plain T I
    have G__law_like := ok__law_like T I
    have G__law_faces := ok__law_faces T I
    have G__law_edges := ok__law_edges T I
    have G__law_spoilt := ok__law_spoilt T I
    have G_Box___init__ := ok_Box___init__ T I
    have G_Box___eq__ := ok_Box___eq__ T I
    have G_Box_skin_area := ok_Box_skin_area T I
    have G_Box_corner_places := ok_Box_corner_places T I
    exact ⟨g_take T _ (by omega), G_is_whole, G_is_sequence, G_check_face, G_check_corner, G_corner_bit, G_corner_numbers, G_face_axes, G_are_beside, G_faces_beside, G_faces_of_corner, G_all_edges, G_check_edge, G_faces_of_edge, G_edge_between, G_edge_ends, G__law_axes, G__law_tuples, G__law_odd, G__law_rid, G__law_whole, G__law_bits, G__law_shaped, G__law_box, G__law_asked, G__law_between, G__law_plain, G__law_like, G__law_faces, G__law_edges, G__law_spoilt, G_Box___init__, G_Box___eq__, G_Box_skin_area, G_Box_corner_places, any_of T G_are_beside G_check_corner G_check_edge G_check_face G_edge_between G_face_axes G_faces_beside G_faces_of_corner G_faces_of_edge⟩
def Math (n : Nat) : Prop := Tr.All True (fun fl => match fl with | .rt d _ => d = .bl true | _ => False) (fun _ => False) (evalS (tx.pgm n) b_law none (.unk :: .dat .hand :: List.replicate (17 - 2) .unk))
theorem ok_law (T : Txt K mg ad) {n : Nat} (I : AllOk Pg w K mg base ad n) (law : Math n) : FnG Pg w K mg base (2 * n + 4) ad.f_law ad.fd_law ["_law_script"] (spLaw (kp (kt K ad) 0)) := by
  refine fn_lawR (txok T) (n := n) (body := b_law) T.F_law sc_law rfl (by decide) (E0' := Snk.no.at) (m := 17) rfl (fun cdv A outer s H E gs hr => ?_) law
  refine of_ex ⟨_, (pss_cons (ps_set (i := 1) sc_law.nd rfl (by first | exact Or.inl rfl | exact Or.inr rfl) (pe_callGS (E := Snk.no.at) (g_hand T (2 * n + 2) (by omega)) (hr.mono (by omega)) gs (by rfl) T.m__law_hand T.k__law_hand T.b__law_hand .nil px_no (pa_cons (pv 0) pa_nil))) (pss_cons (ps_set (i := 2) sc_law.nd rfl (by first | exact Or.inl rfl | exact Or.inr rfl) (pe_lc (own := [("_law_axis", 3)]) (by rfl) sc_law.nd (pi_range1 (by rfl) T.b_range (pa_cons pe_int pa_nil)) (blkOk_by (N := ["_law_script", "_law_hand_here", "_law_sides", "_law_axis", "_law_given", "_law_box_here", "_law_a", "_law_b", "_law_c", "_law_places", "_law_corner", "_law_bits_here", "_law_other", "_law_side", "_law_rows", "_law_index", "_law_found"]) (sc := defScope s_law) (own := [("_law_axis", 3)]) (by decide +kernel)) (fun _ _ _ _ _ => (pg_name (i := 3) sc_law.nd rfl (by first | exact Or.inl rfl | exact Or.inr rfl))) (fun _ _ _ _ _ => pts_nil) (fun _ _ _ _ _ => (pe_op (op_addK (K := (kt K ad).K) rfl) pe_int (pe_callG I.take (hr.mono (by omega)) gs (by rfl) T.m__law_take T.k__law_take T.b__law_take .nil passN (pa_cons (pv 1) (pa_cons pe_int pa_nil)))))))
      (pss_cons (ps_set (i := 4) sc_law.nd rfl (by first | exact Or.inl rfl | exact Or.inr rfl) (pe_callGS (E := (Snk.out E).at) I._law_shaped (hr.mono (by omega)) gs (by rfl) T.m__law_shaped T.k__law_shaped T.b__law_shaped .nil (px_out (L2N.takes_of rfl rfl rfl rfl)) (pa_cons (pv 1) (pa_cons (pv 2) pa_nil))))
      (pss_cons (ps_set (i := 5) sc_law.nd rfl (by first | exact Or.inl rfl | exact Or.inr rfl) (pe_callGS (E := (Snk.out E).at) I._law_box (hr.mono (by omega)) gs (by rfl) T.m__law_box T.k__law_box T.b__law_box .nil (px_out (L2N.takes_of rfl rfl rfl rfl)) (pa_cons (pv 4) pa_nil)))
      (pss_cons (ps_if (pw_or (pt_not (pt_val (pe_callB (call_isiK (K := (kt K ad).K) rfl) (by rfl) T.b_isinstance (by decide +kernel) (pa_cons (pv 5) (pa_cons (pe_glob (v := .ref ad.Box) (by rfl) T.m_Box rfl) pa_nil))))) (pw_or (pt_cmpR (op_neK (K := (kt K ad).K) rfl (Ez.hu64 hr)) (pe_fldK (K := (kt K ad).K) rfl (pv 5)) (pe_callTy (T := "tuple") (call_tupK (K := (kt K ad).K) rfl) (by rfl) T.b_tuple (by decide +kernel) (pa_cons (pv 2) pa_nil)) (nomark _)) (pw_or1 (pt_not (pt_val (pe_callGS (E := (Snk.out E).at) I._law_tuples (hr.mono (by omega)) gs (by rfl) T.m__law_tuples T.k__law_tuples T.b__law_tuples .nil (px_out (L2N.takes_of rfl rfl rfl rfl)) (pa_cons (pe_fldK (K := (kt K ad).K) rfl (pv 5)) pa_nil))))))).pt (pss_one (ps_ret pe_bl)) pss_nil)
      (pss_cons (ps_if (pt_val (pe_callB (call_isiK (K := (kt K ad).K) rfl) (by rfl) T.b_isinstance (by decide +kernel) (pa_cons (pv 4) (pa_cons (pe_bltn (v := .ty "list") (by rfl) T.b_list (by decide +kernel) rfl) pa_nil)))) (pss_one (ps_asg pe_int (pg_sub (pv 4) pe_int set_list))) pss_nil)
      (pss_cons (ps_asg (pv 2) (pg_seqK (K := (kt K ad).K) rfl (n := 3) rfl (pgs_cons (pg_name (i := 6) sc_law.nd rfl (by first | exact Or.inl rfl | exact Or.inr rfl)) (pgs_cons (pg_name (i := 7) sc_law.nd rfl (by first | exact Or.inl rfl | exact Or.inr rfl)) (pgs_cons (pg_name (i := 8) sc_law.nd rfl (by first | exact Or.inl rfl | exact Or.inr rfl)) pgs_nil)))))
      (pss_cons (ps_if (pw_or (pt_cmpR (op_neK (K := (kt K ad).K) rfl (Ez.hu64 hr)) (pe_fldK (K := (kt K ad).K) rfl (pv 5)) (pe_tup (pa_cons (pv 6) (pa_cons (pv 7) (pa_cons (pv 8) pa_nil)))) (nomark _)) (pw_or1 (pt_cmpR (op_neK (K := (kt K ad).K) rfl (Ez.hu64 hr)) (pe_propK (pv 5) T.cl_Box T.pr_Box_skin_area I.Box_skin_area (hr.mono (by omega)) gs T.b_Box_skin_area) (pe_op (op_mulK (K := (kt K ad).K) rfl) pe_int (pe_op (op_addK (K := (kt K ad).K) rfl) (pe_op (op_addK (K := (kt K ad).K) rfl) (pe_op (op_mulK (K := (kt K ad).K) rfl) (pv 6) (pv 7)) (pe_op (op_mulK (K := (kt K ad).K) rfl) (pv 7) (pv 8))) (pe_op (op_mulK (K := (kt K ad).K) rfl) (pv 8) (pv 6)))) (nomark _)))).pt (pss_one (ps_ret pe_bl)) pss_nil)
      (pss_cons (ps_set (i := 9) sc_law.nd rfl (by first | exact Or.inl rfl | exact Or.inr rfl) (pe_lst pa_nil))
      (pss_cons (ps_for (by passes_own) rfl (pi_range1 (by rfl) T.b_range (pa_cons pe_int pa_nil)) (pg_name (i := 10) sc_law.nd rfl (by first | exact Or.inl rfl | exact Or.inr rfl)) (pss_cons (ps_set (i := 11) sc_law.nd rfl (by first | exact Or.inl rfl | exact Or.inr rfl) (pe_callGS (E := (Snk.out E).at) I._law_bits (hr.mono (by omega)) gs (by rfl) T.m__law_bits T.k__law_bits T.b__law_bits .nil (px_out (L2N.takes_of rfl rfl rfl rfl)) (pa_cons (pv 10) pa_nil)))
      (pss_one (ps_expr (pe_bm PySem.F.plainAttrs_list PySem.F.slot_list_append PySem.F.type_list_append mt_append (pv 9) (pa_cons (pe_callTy (T := "tuple") (call_tupK (K := (kt K ad).K) rfl) (by rfl) T.b_tuple (by decide +kernel) (pa_cons (pe_lc (own := [("_law_axis", 3)]) (by rfl) sc_law.nd (pi_range1 (by rfl) T.b_range (pa_cons pe_int pa_nil)) (blkOk_by (N := ["_law_script", "_law_hand_here", "_law_sides", "_law_axis", "_law_given", "_law_box_here", "_law_a", "_law_b", "_law_c", "_law_places", "_law_corner", "_law_bits_here", "_law_other", "_law_side", "_law_rows", "_law_index", "_law_found"]) (sc := defScope s_law) (own := [("_law_axis", 3)]) (by decide +kernel)) (fun _ _ _ _ _ => (pg_name (i := 3) sc_law.nd rfl (by first | exact Or.inl rfl | exact Or.inr rfl))) (fun _ _ _ _ _ => pts_nil) (fun _ _ _ _ _ => (pe_tup (pa_cons (pe_op (op_mulK (K := (kt K ad).K) rfl) (pe_ix (ix_seqK (K := (kt K ad).K) rfl) (pv 11) (pv 3) (fun _ _ => rfl)) (pe_ix (ix_seqK (K := (kt K ad).K) rfl) (pv 2) (pv 3) (fun _ _ => rfl))) (pa_cons pe_int pa_nil))))) pa_nil)) pa_nil))))))
      (pss_cons (ps_if (pw_or (pt_cmpR (op_neK (K := (kt K ad).K) rfl (Ez.hu64 hr)) (pe_propK (pv 5) T.cl_Box T.pr_Box_corner_places I.Box_corner_places (hr.mono (by omega)) gs T.b_Box_corner_places) (pe_callTy (T := "tuple") (call_tupK (K := (kt K ad).K) rfl) (by rfl) T.b_tuple (by decide +kernel) (pa_cons (pv 9) pa_nil)) (nomark _)) (pw_or1 (pt_not (pt_val (pe_callGS (E := (Snk.out E).at) I._law_tuples (hr.mono (by omega)) gs (by rfl) T.m__law_tuples T.k__law_tuples T.b__law_tuples .nil (px_out (L2N.takes_of rfl rfl rfl rfl)) (pa_cons (pe_propK (pv 5) T.cl_Box T.pr_Box_corner_places I.Box_corner_places (hr.mono (by omega)) gs T.b_Box_corner_places) pa_nil)))))).pt (pss_one (ps_ret pe_bl)) pss_nil)
      (pss_cons (ps_setLc (i := 12) (own := [("_law_side", 13)]) (by rfl) sc_law.nd rfl rfl (sw_true rfl rfl rfl (by decide +kernel)) (pi_seqK (K := (kt K ad).K) rfl (pv 2)) (blkOk_by (N := ["_law_script", "_law_hand_here", "_law_sides", "_law_axis", "_law_given", "_law_box_here", "_law_a", "_law_b", "_law_c", "_law_places", "_law_corner", "_law_bits_here", "_law_other", "_law_side", "_law_rows", "_law_index", "_law_found"]) (sc := defScope s_law) (own := [("_law_side", 13)]) (by decide +kernel)) (fun _ _ _ _ _ => (pg_name (i := 13) sc_law.nd rfl (by first | exact Or.inl rfl | exact Or.inr rfl))) (fun _ _ _ _ _ => pts_nil) (fun _ _ _ _ _ => (pe_ifExp (pt_cmpR (op_eqK (K := (kt K ad).K) rfl (Ez.hu64 hr)) (pe_callG I.take (hr.mono (by omega)) gs (by rfl) T.m__law_take T.k__law_take T.b__law_take .nil passN (pa_cons (pv 1) (pa_cons pe_int pa_nil))) pe_int (nomark _)) (pe_op (op_addK (K := (kt K ad).K) rfl) pe_int (pe_callG I.take (hr.mono (by omega)) gs (by rfl) T.m__law_take T.k__law_take T.b__law_take .nil passN (pa_cons (pv 1) (pa_cons pe_int pa_nil)))) (pv 13))))
      (pss_cons (ps_if (pw_or (pt_cmpR (op_neK (K := (kt K ad).K) rfl (Ez.hu64 hr)) (pe_cmpR (OpR.alt (op_eqOwn T.oe_Box I.Box___eq__ (hr.mono (by omega)) gs T.b_Box___eq__ fun σ => px_no σ) (op_eqK (K := (kt K ad).K) rfl (Ez.hu64 hr))) (pe_makeGS (E := (Snk.out E).at) T.mk_Box I.Box___init__ (hr.mono (by omega)) gs (by rfl) T.m_Box T.b_Box___init__ (px_out (L2N.takes_of rfl rfl rfl rfl)) (pa_cons (pv 12) pa_nil)) (pv 5) (nomark _)) (pe_cmpR (op_eqK (K := (kt K ad).K) rfl (Ez.hu64 hr)) (pv 12) (pv 2) (nomark _)) (nomark _)) (pw_or1 (pt_cmpR (op_neK (K := (kt K ad).K) rfl (Ez.hu64 hr)) (pe_cmpR (OpR.alt (op_neOwn T.oe_Box I.Box___eq__ (hr.mono (by omega)) gs T.b_Box___eq__ fun σ => px_no σ) (op_neK (K := (kt K ad).K) rfl (Ez.hu64 hr))) (pe_makeGS (E := (Snk.out E).at) T.mk_Box I.Box___init__ (hr.mono (by omega)) gs (by rfl) T.m_Box T.b_Box___init__ (px_out (L2N.takes_of rfl rfl rfl rfl)) (pa_cons (pv 12) pa_nil)) (pv 5) (nomark _)) (pe_cmpR (op_neK (K := (kt K ad).K) rfl (Ez.hu64 hr)) (pv 12) (pv 2) (nomark _)) (nomark _)))).pt (pss_one (ps_ret pe_bl)) pss_nil)
      (pss_cons (ps_asg (pe_callGS (E := (Snk.out E).at) I._law_spoilt (hr.mono (by omega)) gs (by rfl) T.m__law_spoilt T.k__law_spoilt T.b__law_spoilt .nil (px_out (L2N.takes_of rfl rfl rfl rfl)) (pa_cons (pv 1) (pa_cons (pv 2) pa_nil))) (pg_seqK (K := (kt K ad).K) rfl (n := 2) rfl (pgs_cons (pg_name (i := 14) sc_law.nd rfl (by first | exact Or.inl rfl | exact Or.inr rfl)) (pgs_cons (pg_name (i := 15) sc_law.nd rfl (by first | exact Or.inl rfl | exact Or.inr rfl)) pgs_nil))))
      (pss_cons (ps_set (i := 16) sc_law.nd rfl (by first | exact Or.inl rfl | exact Or.inr rfl) (pe_callGS (E := (Snk.out E).at) I._law_box (hr.mono (by omega)) gs (by rfl) T.m__law_box T.k__law_box T.b__law_box .nil (px_out (L2N.takes_of rfl rfl rfl rfl)) (pa_cons (pv 14) pa_nil)))
      (pss_cons (ps_if (pt_cmp (pc_isN (pv 15))) (pss_one (ps_if (pw_or (pt_not (pt_val (pe_callB (call_isiK (K := (kt K ad).K) rfl) (by rfl) T.b_isinstance (by decide +kernel) (pa_cons (pv 16) (pa_cons (pe_glob (v := .ref ad.Box) (by rfl) T.m_Box rfl) pa_nil))))) (pw_or1 (pt_cmpR (OpR.alt (op_neOwn T.oe_Box I.Box___eq__ (hr.mono (by omega)) gs T.b_Box___eq__ fun σ => px_no σ) (op_neK (K := (kt K ad).K) rfl (Ez.hu64 hr))) (pv 16) (pv 5) (nomark _)))).pt (pss_one (ps_ret pe_bl)) pss_nil)) (pss_one (ps_if (pt_cmpR (op_neK (K := (kt K ad).K) rfl (Ez.hu64 hr)) (pv 16) (pe_lst (pa_cons pe_str (pa_cons (pv 15) pa_nil))) (nomark _)) (pss_one (ps_ret pe_bl)) pss_nil)))
      (pss_one (ps_ret (pe_and (pe_callGS (E := (Snk.out E).at) I._law_faces (hr.mono (by omega)) gs (by rfl) T.m__law_faces T.k__law_faces T.b__law_faces .nil (px_out (L2N.takes_of rfl rfl rfl rfl)) (pa_cons (pv 1) pa_nil)) (pe_and (pe_callGS (E := (Snk.out E).at) I._law_edges (hr.mono (by omega)) gs (by rfl) T.m__law_edges T.k__law_edges T.b__law_edges .nil (px_out (L2N.takes_of rfl rfl rfl rfl)) (pa_cons (pv 1) pa_nil)) (Ez.pe_and1 (pe_cmpR (op_eqK (K := (kt K ad).K) rfl (Ez.hu64 hr)) (pe_fldK (K := (kt K ad).K) rfl (pv 5)) (pe_callTy (T := "tuple") (call_tupK (K := (kt K ad).K) rfl) (by rfl) T.b_tuple (by decide +kernel) (pa_cons (pv 2) pa_nil)) (nomark _))))))))))))))))))))))), ?_⟩
  refine congrArg (tSeq _) ?_
  show _ = (denS (dn (kt K ad) tx (con ad) n E) b_law).ts
  unfold b_law
  simp only [denS, den, denGp, denI, denB, den2, Dn.of, Dn.wt, cond] <;> rfl
end K02
set_option Elab.async false
set_option maxRecDepth 100000
set_option maxHeartbeats 4000000
set_option linter.all false
namespace K02
open PySem Ez Tr
theorem seq_nx {Γ : Pgm} {a b : SS} {ρ ρ' : Vars} (h : evalS Γ a none ρ = .ret (.nx ρ')) : evalS Γ (.seq a b) none ρ = evalS Γ b none ρ' := by
  rw [S_seq, es_seq, h]; rfl
theorem seq_rt {Γ : Pgm} {a b : SS} {ρ ρ' : Vars} {d : D} (h : evalS Γ a none ρ = .ret (.rt d ρ')) : evalS Γ (.seq a b) none ρ = .ret (.rt d ρ') := by
  rw [S_seq, es_seq, h]; rfl
theorem asg_to {Γ : Pgm} {e : EE} {ρ : Vars} {d : D} {i : Nat} (h : evalE Γ e ρ = .ret d) (hi : i < ρ.length) : evalS Γ (.asg (.name i) e) none ρ = .ret (.nx (ρ.set i (.dat d))) := by
  rw [S_asg, es_asg, h]
  show (match evalG false (.name i) d ρ with | some ρ' => (ret (Fl.nx ρ') : RS) | none => bad) = _
  have g : evalG false (.name i) d ρ = some (ρ.set i (.dat d)) := if_pos hi
  rw [g]
theorem asg_goes {Γ : Pgm} {e : EE} {i : Nat} {ρ : Vars} {P : D → Prop} (h : All True P (fun _ => False) (evalE Γ e ρ)) (hi : i < ρ.length) : Ez.Goes Γ (.asg (.name i) e) (fun ρ' => ∃ d, P d ∧ ρ' = ρ.set i (.dat d)) ρ := by
  rw [Ez.Goes, S_asg, es_asg]
  refine All.bndA h fun d p => ?_
  have g : evalG false (.name i) d ρ = some (ρ.set i (.dat d)) := if_pos hi
  simp only [g]
  exact ⟨_, rfl, d, p, rfl⟩
theorem ite_f {Γ : Pgm} {t : EE} {A B : SS} {ρ : Vars} (h : evalE Γ t ρ = .ret (.bl false)) : evalS Γ (.ite t A B) none ρ = evalS Γ B none ρ := by
  rw [S_ite, es_ite, h]; rfl
theorem ite_t {Γ : Pgm} {t : EE} {A B : SS} {ρ : Vars} (h : evalE Γ t ρ = .ret (.bl true)) : evalS Γ (.ite t A B) none ρ = evalS Γ A none ρ := by
  rw [S_ite, es_ite, h]; rfl
theorem eqv_int (a b : Int) : D.eqv (.int a) (.int b) = decide (a = b) := by
  by_cases h : a = b <;> simp [D.eqv, D.py, PyData.eqv, h]
abbrev tI (l : List Int) : List D := l.map D.int
theorem tI_pur : ∀ l : List Int, D.purL (tI l) = true
  | [] => rfl
  | x :: l => by
    show (D.pur (.int x) && D.purL (tI l)) = true
    rw [tI_pur l]; rfl
theorem tI_dep : ∀ l : List Int, D.depL (tI l) = 0
  | [] => rfl
  | x :: l => by
    show max (D.dep (.int x)) (D.depL (tI l)) = 0
    rw [tI_dep l]; rfl
theorem cmp_tup (l : List Int) : D.cmp (.tup (tI l)) = true := by
  show (D.purL (tI l) && decide (D.depL (tI l) + 1 ≤ 64)) = true
  rw [tI_pur, tI_dep]; rfl
theorem cmp_lst (l : List Int) : D.cmp (.lst (tI l)) = true := by
  show (D.purL (tI l) && decide (D.depL (tI l) + 1 ≤ 64)) = true
  rw [tI_pur, tI_dep]; rfl
theorem eqvL_tI : ∀ a b : List Int, PyData.eqvAll (D.pyL (tI a)) (D.pyL (tI b)) = decide (a = b)
  | [], [] => rfl
  | [], y :: b => by simp [D.pyL, PyData.eqvAll]
  | x :: a, [] => by simp [D.pyL, PyData.eqvAll]
  | x :: a, y :: b => by
    have ih := eqvL_tI a b
    show (PyData.eqv (D.py (.int x)) (D.py (.int y)) && PyData.eqvAll (D.pyL (tI a)) (D.pyL (tI b))) = _
    rw [ih, show PyData.eqv (D.py (.int x)) (D.py (.int y)) = decide (x = y) from eqv_int x y]
    by_cases h : x = y <;> by_cases k : a = b <;> simp [h, k]
theorem eqv_tup (a b : List Int) : D.eqv (.tup (tI a)) (.tup (tI b)) = decide (a = b) := by
  rw [← eqvL_tI a b]; simp [D.eqv, D.py, PyData.eqv]
theorem eqv_lst (a b : List Int) : D.eqv (.lst (tI a)) (.lst (tI b)) = decide (a = b) := by
  rw [← eqvL_tI a b]; simp [D.eqv, D.py, PyData.eqv]
theorem o2_eqT (a b : List Int) : o2_eq (.tup (tI a)) (.tup (tI b)) = .ret (.bl (decide (a = b))) := by
  rw [o2_eq, if_pos (by rw [cmp_tup, cmp_tup]; rfl), eqv_tup]
theorem o2_eqL (a b : List Int) : o2_eq (.lst (tI a)) (.lst (tI b)) = .ret (.bl (decide (a = b))) := by
  rw [o2_eq, if_pos (by rw [cmp_lst, cmp_lst]; rfl), eqv_lst]
theorem o2_neL (a b : List Int) : o2_ne (.lst (tI a)) (.lst (tI b)) = .ret (.bl (!decide (a = b))) := by
  rw [o2_ne, if_pos (by rw [cmp_lst, cmp_lst]; rfl), eqv_lst]
theorem call1_ev {Γ : Pgm} {ρ : Vars} {f : Nat} {E : EE} {x : D} (e : evalE Γ E ρ = .ret x) : evalE Γ (.call f true [] (.cons E .nil)) ρ = Γ.call f [x] := by
  rw [E_call, ev_call, E_cons, ev_cons, e]; rfl
theorem unless_goes {Γ : Pgm} {t : EE} {A : SS} {ρ : Vars} (T : evalE Γ t ρ = .ret (.bl false)) : evalS Γ (.ite t A .nop) none ρ = .ret (.nx ρ) := by
  rw [ite_f T]; rfl
theorem call2r {Γ : Pgm} {ρ : Vars} {f : Nat} {sk : Bool} {e1 e2 : EE} {x y r : D} (h1 : evalE Γ e1 ρ = .ret x) (h2 : evalE Γ e2 ρ = .ret y) (R : Γ.call f [x, y] = .ret r) : evalE Γ (.call f sk [] (.cons e1 (.cons e2 .nil))) ρ = .ret r := by
  rw [E_call, ev_call, E_cons, ev_cons, h1, E_cons, ev_cons, h2]
  cases sk with
  | true => exact R
  | false =>
    show (Γ.call f [x, y]).noX = _
    rw [R]; rfl
theorem call3r {Γ : Pgm} {ρ : Vars} {f : Nat} {sk : Bool} {e1 e2 e3 : EE} {x y z r : D} (h1 : evalE Γ e1 ρ = .ret x) (h2 : evalE Γ e2 ρ = .ret y) (h3 : evalE Γ e3 ρ = .ret z) (R : Γ.call f [x, y, z] = .ret r) : evalE Γ (.call f sk [] (.cons e1 (.cons e2 (.cons e3 .nil)))) ρ = .ret r := by
  rw [E_call, ev_call, E_cons, ev_cons, h1, E_cons, ev_cons, h2, E_cons, ev_cons, h3]
  cases sk with
  | true => exact R
  | false =>
    show (Γ.call f [x, y, z]).noX = _
    rw [R]; rfl
theorem call1r {Γ : Pgm} {ρ : Vars} {f : Nat} {sk : Bool} {e1 : EE} {x r : D} (h1 : evalE Γ e1 ρ = .ret x) (R : Γ.call f [x] = .ret r) : evalE Γ (.call f sk [] (.cons e1 .nil)) ρ = .ret r := by
  rw [E_call, ev_call, E_cons, ev_cons, h1]
  cases sk with
  | true => exact R
  | false =>
    show (Γ.call f [x]).noX = _
    rw [R]; rfl
theorem fld_ev {Γ : Pgm} {c : Nat} {ns : List Str} (F : Γ.fld c = ns) {ρ : Vars} {e : EE} {ds : List D} {f : Str} {d : D} (E : evalE Γ e ρ = .ret (.ins c ds)) (L : (ns.zip ds).lookup f = some d) : evalE Γ (.fld e f) ρ = .ret d := by
  rw [E_fld, ev_fld, E]
  show (match ((Γ.fld c).zip ds).lookup f with | some d => (ret d : R) | none => bad) = _
  rw [F, L]
theorem newO_ev {Γ : Pgm} {c f : Nat} {e : EE} {ρ : Vars} {xs : List D} {r : R} (h : evalE Γ e ρ = .ret (.tup xs)) (R : Γ.call f xs = r) : evalE Γ (.newO c f true e) ρ = r := by
  rw [E_newO, ev_newO, h]; exact R
theorem op_ev {Γ : Pgm} {ρ : Vars} {o : Op2} {a b : EE} {x y : D} {r : R} (A : evalE Γ a ρ = .ret x) (B : evalE Γ b ρ = .ret y) (O : op2 o x y = r) : evalE Γ (.op o a b) ρ = r := by
  rw [E_op, ev_op, A, B]; exact O
theorem or_ev {Γ : Pgm} {ρ : Vars} {a b : EE} {x y : Bool} (A : evalE Γ a ρ = .ret (.bl x)) (B : evalE Γ b ρ = .ret (.bl y)) : evalE Γ (.or a b) ρ = .ret (.bl (x || y)) := by
  rw [E_or, ev_or, A]
  cases x with
  | true => rfl
  | false =>
    show (evalE Γ b ρ) = _
    rw [B]; rfl
theorem and_ev {Γ : Pgm} {ρ : Vars} {a b : EE} {x y : Bool} (A : evalE Γ a ρ = .ret (.bl x)) (B : evalE Γ b ρ = .ret (.bl y)) : evalE Γ (.and a b) ρ = .ret (.bl (x && y)) := by
  rw [E_and, ev_and, A]
  cases x with
  | false => rfl
  | true =>
    show (evalE Γ b ρ) = _
    rw [B]; rfl
end K02
set_option Elab.async false
set_option maxRecDepth 100000
set_option maxHeartbeats 4000000
set_option linter.all false
namespace K02
open PySem Ez Tr
theorem faces_all : All True (fun d => d = .bl true) (fun _ => False) (tx.run 12 30 [.hand]) :=
  All.mono (fun _ h => deq_eq h) (fun _ z => z) (of_chk (P := fun d => deq d (.bl true)) (X := fun _ => false) (by decide +kernel) fun _ => rfl)
end K02
set_option Elab.async false
set_option maxRecDepth 100000
set_option maxHeartbeats 4000000
set_option linter.all false
namespace K02
open PySem Ez Tr
noncomputable abbrev ed (k : Nat) : SS := firstS (rests b__law_edges k)
def svB : Sv → Sv → Bool
  | .unk, .unk => true
  | .dat .hand, .dat .hand => true
  | .dat a, .dat b => deq a b
  | .own a, .own b => deqL a b
  | _, _ => false
theorem svB_eq : ∀ {a b : Sv}, svB a b = true → a = b
  | .unk, b, h => by cases b <;> first | rfl | cases h
  | .dat d, .dat e, h => by
    by_cases z : d = .hand ∧ e = .hand
    · rw [z.1, z.2]
    · have : deq d e = true := by
        unfold svB at h
        split at h
        · cases ‹_ = Sv.unk›
        · rename_i h1 h2
          cases h1; cases h2; exact absurd ⟨rfl, rfl⟩ z
        · rename_i h1 h2
          cases h1; cases h2; exact h
        · cases ‹_ = Sv.own _›
        · cases h
      rw [deq_eq this]
  | .dat d, .unk, h => by unfold svB at h; split at h <;> simp_all
  | .dat d, .own _, h => by unfold svB at h; split at h <;> simp_all
  | .dat d, .exc _ _, h => by unfold svB at h; split at h <;> simp_all
  | .dat d, .obj _ _, h => by unfold svB at h; split at h <;> simp_all
  | .own a, .own b, h => by rw [deqL_eq h]
  | .own a, .unk, h => by cases h
  | .own a, .dat _, h => by cases h
  | .own a, .exc _ _, h => by cases h
  | .own a, .obj _ _, h => by cases h
  | .exc _ _, b, h => by cases b <;> cases h
  | .obj _ _, b, h => by cases b <;> cases h
def vB : Vars → Vars → Bool
  | [], [] => true
  | a :: r, b :: s => svB a b && vB r s
  | _, _ => false
theorem vB_eq : ∀ {a b : Vars}, vB a b = true → a = b
  | [], [], _ => rfl
  | [], _ :: _, h => by cases h
  | _ :: _, [], h => by cases h
  | a :: r, b :: s, h => by
    obtain ⟨h1, h2⟩ := Bool.and_eq_true_iff.mp (show (svB a b && vB r s) = true from h)
    rw [svB_eq h1, vB_eq h2]
def nxB (ρ : Vars) : Fl → Bool
  | .nx ρ' => vB ρ' ρ
  | _ => false
theorem nx_of {t : RS} {ρ : Vars} (h : t.only (nxB ρ) = true) : t = .ret (.nx ρ) := by
  obtain ⟨a, e, p⟩ := only_ret h
  cases a with
  | nx ρ' => rw [e, vB_eq p]
  | _ => cases p
/-- True is given back -/
def rtB : Fl → Bool
  | .rt (.bl true) _ => true
  | _ => false
def RtT (fl : Fl) : Prop := ∃ x ρ', fl = .rt x ρ' ∧ x = D.bl true
theorem rtB_of : ∀ {fl : Fl}, rtB fl = true → RtT fl
  | .rt (.bl true) ρ, _ => ⟨_, ρ, rfl, rfl⟩
theorem rt_chk {t : RS} (h : t.chk rtB (fun _ => false) = true) : All True RtT (fun _ => False) t := All.mono (fun _ z => rtB_of z) (fun _ z => z) (of_chk h fun _ => rfl)
def ps (l : List (Int × Int)) : List D := l.map fun p => .tup [.int p.1, .int p.2]
def dues : List D := ps [(0, 1), (0, 2), (0, 4), (1, 3), (1, 5), (2, 3), (2, 6), (3, 7), (4, 5), (4, 6), (5, 7), (6, 7)]
def eI (i : Int) : Sv := .dat (.int i)
def e67 : Sv := .dat (.tup [.int 6, .int 7])
def b7 : Sv := .dat (.tup [.int 1, .int 1, .int 1])
theorem ed0 : evalS (tx.pgm 11) (ed 0) none [.dat .hand, .unk, .unk, .unk, .unk, .unk, .unk, .unk, .unk, .unk, .unk, .unk, .unk] = .ret (.nx [.dat .hand, .own [], .unk, .unk, .unk, .unk, .unk, .unk, .unk, .unk, .unk, .unk, .unk]) := nx_of (by decide +kernel)
theorem ed1 : evalS (tx.pgm 11) (ed 1) none [.dat .hand, .own [], .unk, .unk, .unk, .unk, .unk, .unk, .unk, .unk, .unk, .unk, .unk] = .ret (.nx [.dat .hand, .own dues, eI 7, eI 7, .unk, .unk, .unk, .unk, .unk, .unk, .unk, .unk, .unk]) := nx_of (by decide +kernel)
theorem ed2 : evalS (tx.pgm 11) (ed 2) none [.dat .hand, .own dues, eI 7, eI 7, .unk, .unk, .unk, .unk, .unk, .unk, .unk, .unk, .unk] = .ret (.nx [.dat .hand, .own dues, eI 7, eI 7, .unk, .unk, .unk, .unk, .unk, .unk, .unk, .unk, .unk]) := nx_of (by decide +kernel)
theorem ed3 : evalS (tx.pgm 11) (ed 3) none [.dat .hand, .own dues, eI 7, eI 7, .unk, .unk, .unk, .unk, .unk, .unk, .unk, .unk, .unk] = .ret (.nx [.dat .hand, .dat (.lst dues), eI 7, eI 7, .unk, e67, .unk, .unk, .unk, .unk, .unk, .unk, .unk]) := nx_of (by decide +kernel)
theorem ed4 : evalS (tx.pgm 11) (ed 4) none [.dat .hand, .dat (.lst dues), eI 7, eI 7, .unk, e67, .unk, .unk, .unk, .unk, .unk, .unk, .unk] = .ret (.nx [.dat .hand, .dat (.lst dues), eI 7, eI 7, .unk, e67, eI 7, b7, .unk, .unk, .unk, .unk, .unk]) := nx_of (by decide +kernel)
def r8 (d : D) : Vars := [.dat .hand, .dat (.lst dues), .unk, .unk, .unk, .unk, .unk, .unk, .dat d, .unk, .unk, .unk, .unk]
noncomputable def r8B (d : D) : Bool := (evalS (tx.pgm 11) (rests b__law_edges 8) none (r8 d)).chk rtB (fun _ => false)
end K02
set_option Elab.async false
set_option maxRecDepth 100000
set_option maxHeartbeats 4000000
set_option linter.all false
namespace K02
open PySem Ez Tr
def odds (h : Int) : List D := [.bl true, .non, .str (Str.ofString "1"), .int (-1), .int (h + 1), .tup [.int 0], .bl false, .int (h + 10 ^ 20)]
theorem r8_1 : ((List.range 8).all fun a => (List.range 8).all fun b => r8B (.tup [.int (a : Int), .int (b : Int)])) = true := by decide +kernel
theorem r8_2 : ((List.range 8).all fun a => (List.range 8).all fun b => r8B (.lst [.int (b : Int), .int (a : Int)])) = true := by decide +kernel
theorem r8_3 : ((List.range 8).all fun a => (odds 7).all fun o => r8B (.tup [.int (a : Int), o])) = true := by decide +kernel
theorem r8_4 : ((List.range 8).all fun b => (odds 7).all fun o => r8B (.tup [o, .int (b : Int)])) = true := by decide +kernel
theorem r8_5 : ((List.range 8).all fun a => r8B (.tup [.int (a : Int)]) && r8B (.int (a : Int))) = true := by decide +kernel
theorem r8_6 : r8B (.tup [.int 0, .int 1, .int 3]) = true := by decide +kernel
end K02
set_option Elab.async false
set_option maxRecDepth 100000
set_option maxHeartbeats 4000000
set_option linter.all false
namespace K02
open PySem Ez Tr
def couples (a b : Int) : List D := [.tup [.int a, .int b], .lst [.int b, .int a], .tup [.int a], .tup [.int 0, .int 1, .int 3], .int a] ++ (odds 7).map (fun o => D.tup [.int a, o]) ++ (odds 7).map fun o => D.tup [o, .int b]
def exE : SS → EE
  | .asg _ e => e
  | _ => .nil
noncomputable abbrev E7 : EE := exE (ed 7)
def r7 (a b : Int) : Vars := [.dat .hand, .unk, eI a, eI b, .unk, .unk, .unk, .unk, .unk, .unk, .unk, .unk, .unk]
def memB (d : D) (l : List D) : Bool := l.any fun x => deq x d
theorem cp0 : ((List.range 8).all fun b => (evalE (tx.pgm 11) E7 (r7 0 (b : Int))).chk (fun d => memB d (couples 0 (b : Int))) (fun _ => false)) = true := by decide +kernel
theorem cp1 : ((List.range 8).all fun b => (evalE (tx.pgm 11) E7 (r7 1 (b : Int))).chk (fun d => memB d (couples 1 (b : Int))) (fun _ => false)) = true := by decide +kernel
theorem cp2 : ((List.range 8).all fun b => (evalE (tx.pgm 11) E7 (r7 2 (b : Int))).chk (fun d => memB d (couples 2 (b : Int))) (fun _ => false)) = true := by decide +kernel
theorem cp3 : ((List.range 8).all fun b => (evalE (tx.pgm 11) E7 (r7 3 (b : Int))).chk (fun d => memB d (couples 3 (b : Int))) (fun _ => false)) = true := by decide +kernel
theorem cp4 : ((List.range 8).all fun b => (evalE (tx.pgm 11) E7 (r7 4 (b : Int))).chk (fun d => memB d (couples 4 (b : Int))) (fun _ => false)) = true := by decide +kernel
theorem cp5 : ((List.range 8).all fun b => (evalE (tx.pgm 11) E7 (r7 5 (b : Int))).chk (fun d => memB d (couples 5 (b : Int))) (fun _ => false)) = true := by decide +kernel
theorem cp6 : ((List.range 8).all fun b => (evalE (tx.pgm 11) E7 (r7 6 (b : Int))).chk (fun d => memB d (couples 6 (b : Int))) (fun _ => false)) = true := by decide +kernel
theorem cp7 : ((List.range 8).all fun b => (evalE (tx.pgm 11) E7 (r7 7 (b : Int))).chk (fun d => memB d (couples 7 (b : Int))) (fun _ => false)) = true := by decide +kernel
end K02
set_option Elab.async false
set_option maxRecDepth 100000
set_option maxHeartbeats 4000000
set_option linter.all false
namespace K02
open PySem Ez Tr
theorem rowOf {p : Nat → Bool} (h : ((List.range 8).all p) = true) {b : Int} (b0 : 0 ≤ b) (b1 : b < 8) : p b.toNat = true ∧ ((b.toNat : Nat) : Int) = b :=
  ⟨List.all_eq_true.mp h b.toNat (List.mem_range.mpr (by omega)), by omega⟩
theorem memB_of : ∀ {d : D} {l : List D}, memB d l = true → d ∈ l := fun {d l} h => by
  obtain ⟨x, m, e⟩ := List.any_eq_true.mp h
  rw [← deq_eq e]; exact m
theorem cp_all {a b : Int} (a0 : 0 ≤ a) (a1 : a < 8) (b0 : 0 ≤ b) (b1 : b < 8) : All True (fun d => d ∈ couples a b) (fun _ => False) (evalE (tx.pgm 11) E7 (r7 a b)) := by
  have go : ∀ {k : Int}, ((List.range 8).all fun b => (evalE (tx.pgm 11) E7 (r7 k (b : Int))).chk (fun d => memB d (couples k (b : Int))) (fun _ => false)) = true → All True (fun d => d ∈ couples k b) (fun _ => False) (evalE (tx.pgm 11) E7 (r7 k b)) := fun {k} h => by
    obtain ⟨h1, h2⟩ := rowOf h b0 b1
    rw [h2] at h1
    exact All.mono (fun _ z => memB_of z) (fun _ z => z) (of_chk h1 fun _ => rfl)
  have c : a = 0 ∨ a = 1 ∨ a = 2 ∨ a = 3 ∨ a = 4 ∨ a = 5 ∨ a = 6 ∨ a = 7 := by omega
  rcases c with rfl | rfl | rfl | rfl | rfl | rfl | rfl | rfl
  · exact go cp0
  · exact go cp1
  · exact go cp2
  · exact go cp3
  · exact go cp4
  · exact go cp5
  · exact go cp6
  · exact go cp7
theorem r8_of {d : D} (h : r8B d = true) : All True RtT (fun _ => False) (evalS (tx.pgm 11) (rests b__law_edges 8) none (r8 d)) := rt_chk h
theorem r8_all {a b : Int} (a0 : 0 ≤ a) (a1 : a < 8) (b0 : 0 ≤ b) (b1 : b < 8) {d : D} (h : d ∈ couples a b) : r8B d = true := by
  unfold couples at h
  simp only [List.mem_append, List.mem_cons, List.not_mem_nil, or_false, List.mem_map] at h
  rcases h with (h | ⟨o, ho, rfl⟩) | ⟨o, ho, rfl⟩
  · rcases h with rfl | rfl | rfl | rfl | rfl
    · obtain ⟨h1, h2⟩ := rowOf r8_1 a0 a1
      obtain ⟨h3, h4⟩ := rowOf h1 b0 b1
      rw [h2, h4] at h3; exact h3
    · obtain ⟨h1, h2⟩ := rowOf r8_2 a0 a1
      obtain ⟨h3, h4⟩ := rowOf h1 b0 b1
      rw [h2, h4] at h3; exact h3
    · obtain ⟨h1, h2⟩ := rowOf r8_5 a0 a1
      rw [h2] at h1; exact (Bool.and_eq_true_iff.mp h1).1
    · exact r8_6
    · obtain ⟨h1, h2⟩ := rowOf r8_5 a0 a1
      rw [h2] at h1; exact (Bool.and_eq_true_iff.mp h1).2
  · obtain ⟨h1, h2⟩ := rowOf r8_3 a0 a1
    have h3 := List.all_eq_true.mp h1 o ho
    rw [h2] at h3; exact h3
  · obtain ⟨h1, h2⟩ := rowOf r8_4 b0 b1
    have h3 := List.all_eq_true.mp h1 o ho
    rw [h2] at h3; exact h3
theorem takeH_all {Γ : Pgm} {ρ : Vars} {i : Nat} {m : Int} (G : ρ[i]? = some (.dat .hand)) (m0 : 0 < m) (m1 : m ≤ 100000) : All True (fun d => ∃ v : Int, (0 ≤ v ∧ v < m) ∧ d = .int v) (fun _ => False) (evalE Γ (.take (.cons (.var i) (.cons (.lit (.int m)) .nil))) ρ) := by
  have q : evalE Γ (.take (.cons (.var i) (.cons (.lit (.int m)) .nil))) ρ = .draw m fun v => .ret (.int v) := by
    rw [E_take, ev_take, E_cons, ev_cons, E_var, ev_var, getV, G]; rfl
  rw [q]
  exact All.drawI m0 m1 fun v v0 v1 => ⟨v, ⟨v0, v1⟩, rfl⟩
abbrev e0 : Vars := [.dat .hand, .unk, .unk, .unk, .unk, .unk, .unk, .unk, .unk, .unk, .unk, .unk, .unk]
theorem edges_df : tx.df 31 = some ⟨1, 13, b__law_edges⟩ := rfl
theorem edges_in : tx.ini 31 = none := by rfl
theorem edges_fr : tx.fr 31 = false := by rfl
theorem edges_st : startD ⟨1, 13, b__law_edges⟩ [.hand] = e0 := rfl
theorem edges_body : All True RtT (fun _ => False) (evalS (tx.pgm 11) b__law_edges none e0) := by
  have Sh : b__law_edges = .seq (ed 0) (.seq (ed 1) (.seq (ed 2) (.seq (ed 3) (.seq (ed 4) (.seq (ed 5) (.seq (ed 6) (.seq (ed 7) (rests b__law_edges 8)))))))) := rfl
  rw [Sh, seq_nx ed0, seq_nx ed1, seq_nx ed2, seq_nx ed3, seq_nx ed4]
  have e5 : ed 5 = .asg (.name 2) (.take (.cons (.var 0) (.cons (.lit (.int 8)) .nil))) := rfl
  have e6 : ed 6 = .asg (.name 3) (.take (.cons (.var 0) (.cons (.lit (.int 8)) .nil))) := rfl
  have e7 : ed 7 = .asg (.name 8) E7 := rfl
  rw [e5, e6, e7]
  refine goes (asg_goes (i := 2) (takeH_all (i := 0) rfl (by decide) (by decide)) (show 2 < 13 by decide)) ?_
  rintro _ ⟨_, ⟨a, ⟨a0, a1⟩, rfl⟩, rfl⟩
  refine goes (asg_goes (i := 3) (takeH_all (i := 0) rfl (by decide) (by decide)) (show 3 < 13 by decide)) ?_
  rintro _ ⟨_, ⟨b, ⟨b0, b1⟩, rfl⟩, rfl⟩
  show All True RtT _ (evalS (tx.pgm 11) (.seq (.asg (.name 8) E7) (rests b__law_edges 8)) none [.dat .hand, .dat (.lst dues), eI a, eI b, .unk, e67, eI 7, b7, .unk, .unk, .unk, .unk, .unk])
  refine goes (asg_goes (i := 8) (P := fun d => d ∈ couples a b) (All.up (fun _ _ e z => e ▸ z) (fun _ _ _ z => z) (leE (Γ := tx.pgm 11) E7 (ρ := r7 a b) ?_) (cp_all a0 a1 b0 b1)) (show 8 < 13 by decide)) ?_
  · simp [r7, vle, Sv.le, Sv.isExc, e67, b7, eI]
  rintro _ ⟨d, hd, rfl⟩
  have V : vle (r8 d) [.dat .hand, .dat (.lst dues), eI a, eI b, .unk, e67, eI 7, b7, .dat d, .unk, .unk, .unk, .unk] := by simp [r8, vle, Sv.le, Sv.isExc, e67, b7, eI]
  refine All.up (fun f g h z => ?_) (fun _ _ _ z => z) (leS (Γ := tx.pgm 11) (rests b__law_edges 8) V) (r8_of (r8_all a0 a1 b0 b1 hd))
  obtain ⟨x, ρ', rfl, rfl⟩ := z
  cases g with
  | rt y ρ2 =>
    cases h.1
    exact ⟨_, _, rfl, rfl⟩
  | _ => exact h.elim
theorem edges_all : All True (fun d => d = .bl true) (fun _ => False) (tx.run 12 31 [.hand]) :=
  @All.run True tx 11 31 [.hand] ⟨1, 13, b__law_edges⟩ e0 (fun d => d = .bl true) edges_df rfl edges_st edges_body edges_in edges_fr
end K02
set_option Elab.async false
set_option maxRecDepth 100000
set_option maxHeartbeats 4000000
set_option linter.all false
namespace K02
open PySem Ez Tr
local macro_rules | `(tactic| walk_at "ax") => `(tactic| simp [↓bind_T, ↓bindT_ret, ↓bindT_exn, ↓bindT_bad, ↓bindT_draw, ↓mapX_ret, ↓mapX_exn, ↓mapX_bad, ↓mapX_draw, ↓noX_ret, ↓noX_exn, ↓noX_bad, ↓noX_draw, ↓catch_T, ↓catT_ret, ↓catT_exn, ↓catT_bad, ↓catT_draw, ↓E_var, ↓ev_var, ↓E_lit, ↓ev_lit, ↓E_con, ↓ev_con, ↓E_fnv, ↓ev_fnv, ↓E_clv, ↓ev_clv, ↓E_op, ↓ev_op, ↓E_neg, ↓ev_neg, ↓E_and, ↓ev_and, ↓E_or, ↓ev_or, ↓E_not, ↓ev_not, ↓E_notT, ↓ev_notT, ↓E_isN, ↓ev_isN, ↓E_notN, ↓ev_notN, ↓E_tru, ↓ev_tru, ↓E_chain, ↓ev_chain, ↓E_ifx, ↓ev_ifx, ↓E_nil, ↓ev_nil, ↓E_cons, ↓ev_cons, ↓E_tup, ↓ev_tup, ↓E_lst, ↓ev_lst, ↓E_slc, ↓ev_slc, ↓E_nop, ↓ev_nop, ↓E_part, ↓ev_part, ↓E_call, ↓ev_call, ↓E_callV, ↓ev_callV, ↓E_take, ↓ev_take, ↓E_bi, ↓ev_bi, ↓E_isi, ↓ev_isi, ↓E_isi2, ↓ev_isi2, ↓E_isC, ↓ev_isC, ↓E_eqO, ↓ev_eqO, ↓E_lc, ↓ev_lc, ↓E_yes, ↓ev_yes, ↓E_eqR, ↓ev_eqR, ↓E_xf, ↓ev_xf, ↓E_fld, ↓ev_fld, ↓E_lenO, ↓ev_lenO, ↓E_tupO, ↓ev_tupO, ↓E_lend, ↓ev_lend, ↓E_lstO, ↓ev_lstO, ↓noD_ret, ↓noD_exn, ↓noD_bad, ↓E_ixO, ↓ev_ixO, ↓E_slcO, ↓ev_slcO, ↓S_nop, ↓es_nop, ↓S_seq, ↓es_seq, ↓S_asg, ↓es_asg, ↓S_asgO, ↓es_asgO, ↓S_par, ↓es_par, ↓S_app, ↓es_app, ↓S_setO, ↓es_setO, ↓S_ret, ↓es_ret, ↓S_retN, ↓es_retN, ↓S_ite, ↓es_ite, ↓S_for, ↓es_for, ↓S_whl, ↓es_whl, ↓S_rse, ↓es_rse, ↓S_try, ↓es_try, ↓S_hnil, ↓S_hcons, ↓es_hcons, ↓S_drop, ↓es_drop, ↓S_keep, ↓es_keep, ↓S_brk, ↓es_brk, ↓S_cnt, ↓es_cnt, ↓S_retO, ↓es_retO, ↓S_asgC, ↓es_asgC, ↓pgm_fr, ↓at_, getV, getO, isiD, D.isNon, op2, o2_add, o2_sub, o2_lt, o2_le, o2_gt, o2_ge, o2_isB, o2_isnB, biD, bi_lenD, bi_absD, bi_intD, bi_listD, bi_tupleD, bi_gcd2D, bi_gcd3D, bi_min2D, bi_max2D, Fl.res, ↓runD, startD, toB, truD, optI, slcT, noExc, Sv.isExc, Fl.clr, Fl.off, Sv.clr, evalG, Tg.len, Tg.inn, wipeV, itemsOf, rngL, lcGo, forGo, pgm_call, pgm_con, pgm_fld, pgm_xf, pgm_sub, pgm_most, pgm_ok, scaV, dOf, EE.fresh, ix_t10, ix_t20, ix_t21, ix_t30, ix_t31, ix_t32, ix_l10, ix_l20, ix_l21, ix_l30, ix_l31, ix_l32, @o2_eq_int, @o2_ne_int, *])
local macro_rules | `(tactic| walk_at "nw") => `(tactic| simp [↓bind_T, ↓bindT_ret, ↓bindT_exn, ↓bindT_bad, ↓bindT_draw, ↓mapX_ret, ↓mapX_exn, ↓mapX_bad, ↓mapX_draw, ↓noX_ret, ↓noX_exn, ↓noX_bad, ↓noX_draw, ↓catch_T, ↓catT_ret, ↓catT_exn, ↓catT_bad, ↓catT_draw, ↓E_star, ↓ev_star, seqL, ↓E_var, ↓ev_var, ↓E_lit, ↓ev_lit, ↓E_con, ↓ev_con, ↓E_fnv, ↓ev_fnv, ↓E_clv, ↓ev_clv, ↓E_op, ↓ev_op, ↓E_neg, ↓ev_neg, ↓E_and, ↓ev_and, ↓E_or, ↓ev_or, ↓E_not, ↓ev_not, ↓E_notT, ↓ev_notT, ↓E_isN, ↓ev_isN, ↓E_notN, ↓ev_notN, ↓E_tru, ↓ev_tru, ↓E_chain, ↓ev_chain, ↓E_ifx, ↓ev_ifx, ↓E_nil, ↓ev_nil, ↓E_cons, ↓ev_cons, ↓E_tup, ↓ev_tup, ↓E_lst, ↓ev_lst, ↓E_slc, ↓ev_slc, ↓E_nop, ↓ev_nop, ↓E_part, ↓ev_part, ↓E_call, ↓ev_call, ↓E_callV, ↓ev_callV, ↓E_take, ↓ev_take, ↓E_bi, ↓ev_bi, ↓E_isi, ↓ev_isi, ↓E_isi2, ↓ev_isi2, ↓E_isC, ↓ev_isC, ↓E_eqO, ↓ev_eqO, ↓E_lc, ↓ev_lc, ↓E_yes, ↓ev_yes, ↓E_eqR, ↓ev_eqR, ↓E_xf, ↓ev_xf, ↓E_fld, ↓ev_fld, ↓E_lenO, ↓ev_lenO, ↓E_tupO, ↓ev_tupO, ↓E_lend, ↓ev_lend, ↓E_lstO, ↓ev_lstO, ↓noD_ret, ↓noD_exn, ↓noD_bad, ↓E_ixO, ↓ev_ixO, ↓E_slcO, ↓ev_slcO, ↓S_nop, ↓es_nop, ↓S_seq, ↓es_seq, ↓S_asg, ↓es_asg, ↓S_asgO, ↓es_asgO, ↓S_par, ↓es_par, ↓S_app, ↓es_app, ↓S_setO, ↓es_setO, ↓S_ret, ↓es_ret, ↓S_retN, ↓es_retN, ↓S_ite, ↓es_ite, ↓S_for, ↓es_for, ↓S_whl, ↓es_whl, ↓S_rse, ↓es_rse, ↓S_try, ↓es_try, ↓S_hnil, ↓S_hcons, ↓es_hcons, ↓S_drop, ↓es_drop, ↓S_keep, ↓es_keep, ↓S_brk, ↓es_brk, ↓S_cnt, ↓es_cnt, ↓S_retO, ↓es_retO, ↓S_asgC, ↓es_asgC, ↓pgm_fr, ↓at_, getV, getO, isiD, D.isNon, op2, o2_add, o2_sub, o2_lt, o2_le, o2_gt, o2_ge, o2_isB, o2_isnB, biD, bi_lenD, bi_absD, bi_intD, bi_listD, bi_tupleD, bi_gcd2D, bi_gcd3D, bi_min2D, bi_max2D, Fl.res, ↓runD, startD, E_newO, ev_newO, toB, truD, optI, slcT, noExc, Sv.isExc, Fl.clr, Fl.off, Sv.clr, evalG, Tg.len, Tg.inn, wipeV, itemsOf, rngL, lcGo, forGo, zipL, enumL, pgm_call, pgm_con, pgm_fld, pgm_xf, pgm_sub, pgm_most, pgm_ok, scaV, dOf, EE.fresh, ix_t10, ix_t20, ix_t21, ix_t30, ix_t31, ix_t32, ix_l10, ix_l20, ix_l21, ix_l30, ix_l31, ix_l32, @o2_eq_int, @o2_ne_int, *])
noncomputable abbrev fgB (Γ : Pgm) (tg : Tg) (B : SS) (x : D) (ρ : Vars) : RS := match evalG false tg x ρ with | some ρ' => evalS Γ B none ρ' | none => bad
theorem not_ev {Γ : Pgm} {ρ : Vars} {a : EE} {b : Bool} (h : evalE Γ a ρ = .ret (.bl b)) : evalE Γ (.not a) ρ = .ret (.bl (!b)) := by
  rw [E_not, ev_not, h]; rfl
def bads : List D := odds 60 ++ [.int 0, .int 61]
/-- a side, or what is none -/
def Ent (d : D) (g : Bool) : Prop := (g = true ∧ ∃ i : Int, (1 ≤ i ∧ i ≤ 60) ∧ d = .int i) ∨ (g = false ∧ d ∈ bads)
theorem isw_in (n : Nat) {x : Int} (h : 1 ≤ x ∧ x ≤ 60) : tx.run (n + 1) 0 [.int x, .int 1, .int 60] = .ret (.bl true) := by
  have h1 : ¬ x < 1 := by omega
  have h2 : x ≤ 60 := h.2
  have e_is_whole : tx.run (n + 1) 0 [.int x, .int 1, .int 60] = runD (tx.pgm (n)) ⟨3, 3, b_is_whole⟩ [.int x, .int 1, .int 60] := rfl
  rw [e_is_whole, b_is_whole]; clear e_is_whole
  walk_at "ax"
theorem isw_ent (n : Nat) {d : D} {g : Bool} (h : Ent d g) : tx.run (n + 1) 0 [d, .int 1, .int 60] = .ret (.bl g) := by
  rcases h with ⟨rfl, i, hi, rfl⟩ | ⟨rfl, hd⟩
  · exact isw_in n hi
  · unfold bads odds at hd
    simp only [List.mem_append, List.mem_cons, List.not_mem_nil, or_false] at hd
    rcases hd with (rfl | rfl | rfl | rfl | rfl | rfl | rfl | rfl) | rfl | rfl <;> rfl
theorem lw_in (n : Nat) {x : Int} (h : 1 ≤ x ∧ x ≤ 60) : tx.run (n + 1) 22 [.int x, .int 1, .int 60] = .ret (.bl true) := by
  have h1 : 1 ≤ x := h.1
  have h2 : x ≤ 60 := h.2
  have e__law_whole : tx.run (n + 1) 22 [.int x, .int 1, .int 60] = runD (tx.pgm (n)) ⟨3, 3, b__law_whole⟩ [.int x, .int 1, .int 60] := rfl
  rw [e__law_whole, b__law_whole]; clear e__law_whole
  walk_at "ax"
theorem lw_ent (n : Nat) {d : D} {g : Bool} (h : Ent d g) : tx.run (n + 1) 22 [d, .int 1, .int 60] = .ret (.bl g) := by
  rcases h with ⟨rfl, i, hi, rfl⟩ | ⟨rfl, hd⟩
  · exact lw_in n hi
  · unfold bads odds at hd
    simp only [List.mem_append, List.mem_cons, List.not_mem_nil, or_false] at hd
    rcases hd with (rfl | rfl | rfl | rfl | rfl | rfl | rfl | rfl) | rfl | rfl <;> rfl
def fst3 (g0 g1 g2 : Bool) : Option Int := if g0 = true then (if g1 = true then (if g2 = true then none else some 2) else some 1) else some 0
abbrev tgB : Tg := .tup (.cons (.name 2) (.cons (.name 3) .nil))
abbrev bxB : SS := .ite (.not (.call 0 true [] (.cons (.var 3) (.cons (.lit (.int 1)) (.cons (.lit (.int 60)) .nil))))) (.rse 1 (.cons (.var 2) .nil)) .nop
section
variable {d e e0 e1 e2 : D} {g g0 g1 g2 : Bool}
theorem bx_one (n : Nat) {k : Int} (W : tx.run (n + 1) 0 [e, .int 1, .int 60] = .ret (.bl g)) (x2 x3 : Sv) : fgB (tx.pgm (n + 1)) tgB bxB (.tup [.int k, e]) [.obj 6 [], .dat d, x2, x3] = if g = true then .ret (.nx [.obj 6 [], .dat d, .dat (.int k), .dat e]) else .exn (⟨1, [.int k]⟩, [.obj 6 [], .dat d, .dat (.int k), .dat e]) := by
  show evalS (tx.pgm (n + 1)) bxB none [.obj 6 [], .dat d, .dat (.int k), .dat e] = _
  have C : evalE (tx.pgm (n + 1)) (.call 0 true [] (.cons (.var 3) (.cons (.lit (.int 1)) (.cons (.lit (.int 60)) .nil)))) [.obj 6 [], .dat d, .dat (.int k), .dat e] = .ret (.bl g) := call3r (x := e) (y := .int 1) (z := .int 60) rfl rfl rfl W
  cases g with
  | true => exact unless_goes (not_ev C)
  | false => exact (ite_t (not_ev C)).trans rfl
theorem bx_for (n : Nat) (W0 : tx.run (n + 1) 0 [e0, .int 1, .int 60] = .ret (.bl g0)) (W1 : tx.run (n + 1) 0 [e1, .int 1, .int 60] = .ret (.bl g1)) (W2 : tx.run (n + 1) 0 [e2, .int 1, .int 60] = .ret (.bl g2)) :
    match fst3 g0 g1 g2 with
    | none => forGo (fgB (tx.pgm (n + 1)) tgB bxB) [.tup [.int 0, e0], .tup [.int 1, e1], .tup [.int 2, e2]] [.obj 6 [], .dat d, .unk, .unk] = .ret (.nx [.obj 6 [], .dat d, .dat (.int 2), .dat e2])
    | some k => ∃ ρ, forGo (fgB (tx.pgm (n + 1)) tgB bxB) [.tup [.int 0, e0], .tup [.int 1, e1], .tup [.int 2, e2]] [.obj 6 [], .dat d, .unk, .unk] = .exn (⟨1, [.int k]⟩, ρ) := by
  rw [forGo, bx_one n W0]
  cases g0 with
  | false => exact ⟨_, rfl⟩
  | true =>
    rw [if_pos rfl]
    show match fst3 true g1 g2 with | none => forGo _ [.tup [.int 1, e1], .tup [.int 2, e2]] _ = _ | some k => ∃ ρ, forGo _ [.tup [.int 1, e1], .tup [.int 2, e2]] _ = _
    rw [forGo, bx_one n W1]
    cases g1 with
    | false => exact ⟨_, rfl⟩
    | true =>
      rw [if_pos rfl]
      show match fst3 true true g2 with | none => forGo _ [.tup [.int 2, e2]] _ = _ | some k => ∃ ρ, forGo _ [.tup [.int 2, e2]] _ = _
      rw [forGo, bx_one n W2]
      cases g2 with
      | false => exact ⟨_, rfl⟩
      | true => rfl
theorem box_run3 (n : Nat) (hd : d = .lst [e0, e1, e2] ∨ d = .tup [e0, e1, e2]) (W0 : tx.run (n + 1) 0 [e0, .int 1, .int 60] = .ret (.bl g0)) (W1 : tx.run (n + 1) 0 [e1, .int 1, .int 60] = .ret (.bl g1)) (W2 : tx.run (n + 1) 0 [e2, .int 1, .int 60] = .ret (.bl g2)) :
    tx.run (n + 2) 34 [d] = match fst3 g0 g1 g2 with | none => .ret (.ins 6 [.tup [e0, e1, e2]]) | some k => .exn ⟨1, [.int k]⟩ := by
  have hrun : tx.run (n + 2) 34 [d] = ((evalS (tx.pgm (n + 1)) b_Box___init__ none [.obj 6 [], .dat d, .unk, .unk]).bind (Fl.made tx.fld)).mapX (·.1) := rfl
  have Sh : b_Box___init__ = .seq (.ite (.not (.call 1 true [] (.cons (.var 1) (.cons (.lit (.int 3)) (.cons (.lit (.int 3)) .nil))))) (.rse 1 (.cons (.lit (.int 0)) .nil)) .nop) (.seq (.for .enum (.cons (.var 1) .nil) tgB bxB) (.setF (Str.ofString "sides") (.bi .tuple (.cons (.var 1) .nil)))) := rfl
  have T0 : evalE (tx.pgm (n + 1)) (.not (.call 1 true [] (.cons (.var 1) (.cons (.lit (.int 3)) (.cons (.lit (.int 3)) .nil))))) [.obj 6 [], .dat d, .unk, .unk] = .ret (.bl false) := by
    rcases hd with rfl | rfl <;> rfl
  have F := bx_for (d := d) n W0 W1 W2
  have e : evalS (tx.pgm (n + 1)) (.for .enum (.cons (.var 1) .nil) tgB bxB) none [.obj 6 [], .dat d, .unk, .unk] = forGo (fgB (tx.pgm (n + 1)) tgB bxB) [.tup [.int 0, e0], .tup [.int 1, e1], .tup [.int 2, e2]] [.obj 6 [], .dat d, .unk, .unk] := by
    rw [S_for, es_for]
    rcases hd with rfl | rfl <;> rfl
  rw [hrun, Sh, seq_nx (unless_goes T0)]
  generalize fst3 g0 g1 g2 = o at F ⊢
  cases o with
  | none =>
    rw [seq_nx (e.trans F)]
    rcases hd with rfl | rfl <;> rfl
  | some k =>
    obtain ⟨ρ, F⟩ := F
    rw [S_seq, es_seq, e, F]
    rfl
end
/-- .. of another length, or no sequence -/
theorem box_no (n : Nat) {d : D} (T : tx.run (n + 1) 1 [d, .int 3, .int 3] = .ret (.bl false)) : tx.run (n + 2) 34 [d] = .exn ⟨1, [.int 0]⟩ := by
  have hrun : tx.run (n + 2) 34 [d] = ((evalS (tx.pgm (n + 1)) b_Box___init__ none [.obj 6 [], .dat d, .unk, .unk]).bind (Fl.made tx.fld)).mapX (·.1) := rfl
  have Sh : b_Box___init__ = .seq (.ite (.not (.call 1 true [] (.cons (.var 1) (.cons (.lit (.int 3)) (.cons (.lit (.int 3)) .nil))))) (.rse 1 (.cons (.lit (.int 0)) .nil)) .nop) (.seq (.for .enum (.cons (.var 1) .nil) tgB bxB) (.setF (Str.ofString "sides") (.bi .tuple (.cons (.var 1) .nil)))) := rfl
  have C : evalE (tx.pgm (n + 1)) (.not (.call 1 true [] (.cons (.var 1) (.cons (.lit (.int 3)) (.cons (.lit (.int 3)) .nil))))) [.obj 6 [], .dat d, .unk, .unk] = .ret (.bl true) := not_ev (b := false) (call3r (x := d) (y := .int 3) (z := .int 3) rfl rfl rfl T)
  have E : evalS (tx.pgm (n + 1)) (.ite (.not (.call 1 true [] (.cons (.var 1) (.cons (.lit (.int 3)) (.cons (.lit (.int 3)) .nil))))) (.rse 1 (.cons (.lit (.int 0)) .nil)) .nop) none [.obj 6 [], .dat d, .unk, .unk] = .exn (⟨1, [.int 0]⟩, [.obj 6 [], .dat d, .unk, .unk]) := (ite_t C).trans rfl
  rw [hrun, Sh, S_seq, es_seq, E]
  rfl
def badD (k : Int) : D := .lst [.str (Str.ofString "BadBox"), .int k]
theorem lbox_ok (n : Nat) {d x : D} (R : tx.run (n + 2) 34 [d] = .ret x) : tx.run (n + 3) 25 [d] = .ret x := by
  have e__law_box : tx.run (n + 3) 25 [d] = runD (tx.pgm ((n + 2))) ⟨1, 3, b__law_box⟩ [d] := rfl
  rw [e__law_box, b__law_box]; clear e__law_box
  walk_at "nw"
theorem lbox_no (n : Nat) {d : D} {k : Int} (R : tx.run (n + 2) 34 [d] = .exn ⟨1, [.int k]⟩) : tx.run (n + 3) 25 [d] = .ret (badD k) := by
  have S1 : tx.sub 1 1 = some true := rfl
  have X1 : tx.xf 1 = [Str.ofString "index"] := rfl
  have e__law_box : tx.run (n + 3) 25 [d] = runD (tx.pgm ((n + 2))) ⟨1, 3, b__law_box⟩ [d] := rfl
  rw [e__law_box, b__law_box]; clear e__law_box
  walk_at "nw"
  rfl
end K02
set_option Elab.async false
set_option maxRecDepth 100000
set_option maxHeartbeats 4000000
set_option linter.all false
namespace K02
open PySem Ez Tr
local macro_rules | `(tactic| walk_at "nw") => `(tactic| simp [↓bind_T, ↓bindT_ret, ↓bindT_exn, ↓bindT_bad, ↓bindT_draw, ↓mapX_ret, ↓mapX_exn, ↓mapX_bad, ↓mapX_draw, ↓noX_ret, ↓noX_exn, ↓noX_bad, ↓noX_draw, ↓catch_T, ↓catT_ret, ↓catT_exn, ↓catT_bad, ↓catT_draw, ↓E_star, ↓ev_star, seqL, ↓E_var, ↓ev_var, ↓E_lit, ↓ev_lit, ↓E_con, ↓ev_con, ↓E_fnv, ↓ev_fnv, ↓E_clv, ↓ev_clv, ↓E_op, ↓ev_op, ↓E_neg, ↓ev_neg, ↓E_and, ↓ev_and, ↓E_or, ↓ev_or, ↓E_not, ↓ev_not, ↓E_notT, ↓ev_notT, ↓E_isN, ↓ev_isN, ↓E_notN, ↓ev_notN, ↓E_tru, ↓ev_tru, ↓E_chain, ↓ev_chain, ↓E_ifx, ↓ev_ifx, ↓E_nil, ↓ev_nil, ↓E_cons, ↓ev_cons, ↓E_tup, ↓ev_tup, ↓E_lst, ↓ev_lst, ↓E_slc, ↓ev_slc, ↓E_nop, ↓ev_nop, ↓E_part, ↓ev_part, ↓E_call, ↓ev_call, ↓E_callV, ↓ev_callV, ↓E_take, ↓ev_take, ↓E_bi, ↓ev_bi, ↓E_isi, ↓ev_isi, ↓E_isi2, ↓ev_isi2, ↓E_isC, ↓ev_isC, ↓E_eqO, ↓ev_eqO, ↓E_lc, ↓ev_lc, ↓E_yes, ↓ev_yes, ↓E_eqR, ↓ev_eqR, ↓E_xf, ↓ev_xf, ↓E_fld, ↓ev_fld, ↓E_lenO, ↓ev_lenO, ↓E_tupO, ↓ev_tupO, ↓E_lend, ↓ev_lend, ↓E_lstO, ↓ev_lstO, ↓noD_ret, ↓noD_exn, ↓noD_bad, ↓E_ixO, ↓ev_ixO, ↓E_slcO, ↓ev_slcO, ↓S_nop, ↓es_nop, ↓S_seq, ↓es_seq, ↓S_asg, ↓es_asg, ↓S_asgO, ↓es_asgO, ↓S_par, ↓es_par, ↓S_app, ↓es_app, ↓S_setO, ↓es_setO, ↓S_ret, ↓es_ret, ↓S_retN, ↓es_retN, ↓S_ite, ↓es_ite, ↓S_for, ↓es_for, ↓S_whl, ↓es_whl, ↓S_rse, ↓es_rse, ↓S_try, ↓es_try, ↓S_hnil, ↓S_hcons, ↓es_hcons, ↓S_drop, ↓es_drop, ↓S_keep, ↓es_keep, ↓S_brk, ↓es_brk, ↓S_cnt, ↓es_cnt, ↓S_retO, ↓es_retO, ↓S_asgC, ↓es_asgC, ↓pgm_fr, ↓at_, getV, getO, isiD, D.isNon, op2, o2_add, o2_sub, o2_lt, o2_le, o2_gt, o2_ge, o2_isB, o2_isnB, biD, bi_lenD, bi_absD, bi_intD, bi_listD, bi_tupleD, bi_gcd2D, bi_gcd3D, bi_min2D, bi_max2D, Fl.res, ↓runD, startD, E_newO, ev_newO, toB, truD, optI, slcT, noExc, Sv.isExc, Fl.clr, Fl.off, Sv.clr, evalG, Tg.len, Tg.inn, wipeV, itemsOf, rngL, lcGo, forGo, zipL, enumL, pgm_call, pgm_con, pgm_fld, pgm_xf, pgm_sub, pgm_most, pgm_ok, scaV, dOf, EE.fresh, ix_t10, ix_t20, ix_t21, ix_t30, ix_t31, ix_t32, ix_l10, ix_l20, ix_l21, ix_l30, ix_l31, ix_l32, @o2_eq_int, @o2_ne_int, *])
abbrev bx (l : List Int) : D := .ins 6 [.tup (tI l)]
theorem fldB : tx.fld 6 = [Str.ofString "sides"] := rfl
theorem beq_run (n : Nat) (l m : List Int) : tx.run (n + 1) 35 [bx l, bx m] = .ret (.bl (decide (l = m))) := by
  have hrun : tx.run (n + 1) 35 [bx l, bx m] = ((evalS (tx.pgm n) b_Box___eq__ none [.dat (bx l), .dat (bx m)]).bind Fl.res).mapX (·.1) := rfl
  have Sh : b_Box___eq__ = .ret (.and (.isC (.var 1) 6) (.op .eq (.fld (.var 0) (Str.ofString "sides")) (.fld (.var 1) (Str.ofString "sides")))) := rfl
  have A : evalE (tx.pgm n) (.isC (.var 1) 6) [.dat (bx l), .dat (bx m)] = .ret (.bl true) := rfl
  have F : (tx.pgm n).fld 6 = [Str.ofString "sides"] := rfl
  have B := op_ev (o := .eq) (fld_ev (f := Str.ofString "sides") (d := .tup (tI l)) F (e := .var 0) (ρ := [.dat (bx l), .dat (bx m)]) (ds := [.tup (tI l)]) rfl rfl) (fld_ev (f := Str.ofString "sides") (d := .tup (tI m)) F (e := .var 1) (ds := [.tup (tI m)]) rfl rfl) (o2_eqT l m)
  rw [hrun, Sh, S_ret, es_ret, and_ev A B]
  rfl
theorem eqO_bx (n : Nat) (neg : Bool) {ρ : Vars} {e1 e2 : EE} {l m : List Int} (h1 : evalE (tx.pgm (n + 1)) e1 ρ = .ret (bx l)) (h2 : evalE (tx.pgm (n + 1)) e2 ρ = .ret (bx m)) : evalE (tx.pgm (n + 1)) (.eqO neg 6 35 e1 e2) ρ = .ret (.bl (neg != decide (l = m))) := by
  rw [E_eqO, ev_eqO, h1, h2]
  show (if 6 = 6 ∧ 6 = 6 then (((tx.pgm (n + 1)).call 35 [bx l, bx m]).noX.bind (eqBack neg)) else bad) = _
  rw [if_pos ⟨rfl, rfl⟩, show (tx.pgm (n + 1)).call 35 [bx l, bx m] = _ from beq_run n l m]
  rfl
theorem lcGo_none {f : D → Tr Xn (Option D)} : ∀ {l acc : List D}, (∀ x ∈ l, f x = .ret none) → lcGo f l acc = .ret (.lst acc)
  | [], acc, _ => rfl
  | x :: xs, acc, k => by
    rw [lcGo, k x (by simp)]
    exact lcGo_none fun y m => k y (List.mem_cons_of_mem _ m)
theorem lcGo_map {f : D → Tr Xn (Option D)} {g : D → D} : ∀ {l acc : List D}, (∀ x ∈ l, f x = .ret (some (g x))) → lcGo f l acc = .ret (.lst (acc ++ l.map g))
  | [], acc, _ => by simp [lcGo]
  | x :: xs, acc, k => by
    rw [lcGo, k x (by simp)]
    show lcGo f xs (acc ++ [g x]) = _
    rw [lcGo_map fun y m => k y (List.mem_cons_of_mem _ m)]
    simp
theorem lcm_ev {Γ : Pgm} {ρ : Vars} {k : ItK} {it e : EE} {i : Nat} {d : D} {l : List D} {g : D → D} (hit : evalE Γ it ρ = .ret d) (hk : itemsOf k d = some l) (hl : l.length ≤ 10000) (hi : i < ρ.length) (h : ∀ x, x ∈ l → evalE Γ e (ρ.set i (.dat x)) = .ret (g x)) : evalE Γ (.lc k it (.name i) .yes e [i]) ρ = .ret (.lst (l.map g)) := by
  rw [E_lc, ev_lc, hit]
  simp only [bind_ret]
  rw [hk]
  have c : l.length ≤ 10000 ∧ Tg.inn (.name i) [i] = true := ⟨hl, by simp [Tg.inn]⟩
  simp only [if_pos c]
  rw [lcGo_map (g := g) (by
    intro x mx
    have gg : evalG false (.name i) x (wipeV ρ [i]) = some (ρ.set i (.dat x)) := by simp [evalG, wipeV, hi]
    rw [gg]
    show ((evalE Γ e (ρ.set i (.dat x))).noX.bind fun y => ret (some y)) = _
    rw [h x mx]; rfl)]
  rfl
theorem tups_run (n : Nat) {l : List D} (hl : l.length ≤ 10000) (h : ∀ x ∈ l, tx.run n 19 [x] = .ret (.bl true)) : tx.run (n + 1) 19 [.tup l] = .ret (.bl true) := by
  have hrun : tx.run (n + 1) 19 [.tup l] = ((evalS (tx.pgm n) b__law_tuples none [.dat (.tup l), .unk]).bind Fl.res).mapX (·.1) := rfl
  have Sh : b__law_tuples = .seq (.ite (.isi (.var 0) .tuple) (.ret (.notT (.lc .seq (.var 0) (.name 1) (.not (.call 19 false [] (.cons (.var 1) .nil))) (.lit (.int 1)) [1]))) .nop) (.ret (.or (.isN (.var 0)) (.and (.isi (.var 0) .int) (.not (.isi (.var 0) .bool))))) := rfl
  have L : evalE (tx.pgm n) (.lc .seq (.var 0) (.name 1) (.not (.call 19 false [] (.cons (.var 1) .nil))) (.lit (.int 1)) [1]) [.dat (.tup l), .unk] = .ret (.lst []) := by
    rw [E_lc, ev_lc, show evalE (tx.pgm n) (.var 0) [.dat (.tup l), .unk] = .ret (.tup l) from rfl]
    simp only [bind_ret]
    show (if l.length ≤ 10000 ∧ Tg.inn (.name 1) [1] = true then _ else _) = _
    rw [if_pos ⟨hl, rfl⟩]
    refine lcGo_none fun x m => ?_
    show ((evalE (tx.pgm n) (.not (.call 19 false [] (.cons (.var 1) .nil))) [.dat (.tup l), .dat x]).noX.bind _) = _
    rw [not_ev (call1r (x := x) rfl (h x m))]
    rfl
  rw [hrun, Sh, seq_rt (ρ' := [.dat (.tup l), .unk]) (d := .bl true)]
  · rfl
  · refine (ite_t rfl).trans ?_
    rw [S_ret, es_ret, E_notT, ev_notT, L]
    rfl
theorem tup_int (n : Nat) (i : Int) : tx.run (n + 1) 19 [.int i] = .ret (.bl true) := rfl
def bit (k : Nat) (x : Nat) : Int := if x = 0 then ((k / 4 : Nat) : Int) else if x = 1 then ((k / 2 % 2 : Nat) : Int) else ((k % 2 : Nat) : Int)
theorem bit_b (k : Nat) (hk : k < 8) (x : Nat) : 0 ≤ bit k x ∧ bit k x ≤ 1 := by
  unfold bit
  by_cases h : x = 0
  · rw [if_pos h]; omega
  · rw [if_neg h]
    by_cases h : x = 1
    · rw [if_pos h]; omega
    · rw [if_neg h]; omega
theorem cbit_run (n : Nat) : ∀ {k : Nat}, k < 8 → tx.run (n + 1) 4 [.int (k : Int), .int 0] = .ret (.int (bit k 0)) ∧ tx.run (n + 1) 4 [.int (k : Int), .int 1] = .ret (.int (bit k 1)) ∧ tx.run (n + 1) 4 [.int (k : Int), .int 2] = .ret (.int (bit k 2))
  | 0, _ => ⟨rfl, rfl, rfl⟩
  | 1, _ => ⟨rfl, rfl, rfl⟩
  | 2, _ => ⟨rfl, rfl, rfl⟩
  | 3, _ => ⟨rfl, rfl, rfl⟩
  | 4, _ => ⟨rfl, rfl, rfl⟩
  | 5, _ => ⟨rfl, rfl, rfl⟩
  | 6, _ => ⟨rfl, rfl, rfl⟩
  | 7, _ => ⟨rfl, rfl, rfl⟩
  | _ + 8, h => absurd h (by omega)
theorem lbits_run (n : Nat) : ∀ {k : Nat}, k < 8 → tx.run (n + 1) 23 [.int (k : Int)] = .ret (.tup [.int (bit k 0), .int (bit k 1), .int (bit k 2)])
  | 0, _ => rfl
  | 1, _ => rfl
  | 2, _ => rfl
  | 3, _ => rfl
  | 4, _ => rfl
  | 5, _ => rfl
  | 6, _ => rfl
  | 7, _ => rfl
  | _ + 8, h => absurd h (by omega)
theorem mul_sm {a b : Int} (ha : a.natAbs < 2 ^ 60) (hb : b.natAbs < 2 ^ 60) : o2_mul (.int a) (.int b) = .ret (.int (a * b)) := by
  have l : ∀ {x : Int}, x.natAbs < 2 ^ 60 → x.natAbs.log2 < 200 := by
    intro x h
    by_cases z : x.natAbs = 0
    · rw [z]; decide
    · exact (Nat.log2_lt z).mpr (Nat.lt_trans h (by decide))
  have h : a.natAbs.log2 + b.natAbs.log2 + 130 < 1000000 := by have := l ha; have := l hb; omega
  exact if_pos h
abbrev Sd (a : Int) : Prop := 1 ≤ a ∧ a ≤ 60
theorem mul_bit {a : Int} (h : Sd a) {k : Nat} (hk : k < 8) (x : Nat) : o2_mul (.int a) (.int (bit k x)) = .ret (.int (a * bit k x)) ∧ o2_mul (.int (bit k x)) (.int a) = .ret (.int (bit k x * a)) := by
  have := bit_b k hk x
  exact ⟨mul_sm (by omega) (by omega), mul_sm (by omega) (by omega)⟩
def cnD (a b c : Int) (k : Nat) : D := .tup [.int (a * bit k 0), .int (b * bit k 1), .int (c * bit k 2)]
section
variable {a b c : Int}
theorem cn_run (n : Nat) {k : Nat} (hk : k < 8) (ha : Sd a) (hb : Sd b) (hc : Sd c) : tx.run (n + 2) 5 [bx [a, b, c], .int (k : Int)] = .ret (cnD a b c k) := by
  obtain ⟨B0, B1, B2⟩ := cbit_run n hk
  have M0 := (mul_bit ha hk 0).1
  have M1 := (mul_bit hb hk 1).1
  have M2 := (mul_bit hc hk 2).1
  have F := fldB
  unfold cnD
  generalize bit k 0 = x at *
  generalize bit k 1 = y at *
  generalize bit k 2 = z at *
  generalize (k : Int) = kk at *
  clear hk ha hb hc
  have e_corner_numbers : tx.run (n + 2) 5 [bx [a, b, c], .int kk] = runD (tx.pgm ((n + 1))) ⟨2, 4, b_corner_numbers⟩ [bx [a, b, c], .int kk] := rfl
  rw [e_corner_numbers, b_corner_numbers]; clear e_corner_numbers
  walk_at "nw"
end
end K02
set_option Elab.async false
set_option maxRecDepth 100000
set_option maxHeartbeats 4000000
set_option linter.all false
namespace K02
open PySem Ez Tr
local macro_rules | `(tactic| walk_at "nw") => `(tactic| simp [↓bind_T, ↓bindT_ret, ↓bindT_exn, ↓bindT_bad, ↓bindT_draw, ↓mapX_ret, ↓mapX_exn, ↓mapX_bad, ↓mapX_draw, ↓noX_ret, ↓noX_exn, ↓noX_bad, ↓noX_draw, ↓catch_T, ↓catT_ret, ↓catT_exn, ↓catT_bad, ↓catT_draw, ↓E_star, ↓ev_star, seqL, ↓E_var, ↓ev_var, ↓E_lit, ↓ev_lit, ↓E_con, ↓ev_con, ↓E_fnv, ↓ev_fnv, ↓E_clv, ↓ev_clv, ↓E_op, ↓ev_op, ↓E_neg, ↓ev_neg, ↓E_and, ↓ev_and, ↓E_or, ↓ev_or, ↓E_not, ↓ev_not, ↓E_notT, ↓ev_notT, ↓E_isN, ↓ev_isN, ↓E_notN, ↓ev_notN, ↓E_tru, ↓ev_tru, ↓E_chain, ↓ev_chain, ↓E_ifx, ↓ev_ifx, ↓E_nil, ↓ev_nil, ↓E_cons, ↓ev_cons, ↓E_tup, ↓ev_tup, ↓E_lst, ↓ev_lst, ↓E_slc, ↓ev_slc, ↓E_nop, ↓ev_nop, ↓E_part, ↓ev_part, ↓E_call, ↓ev_call, ↓E_callV, ↓ev_callV, ↓E_take, ↓ev_take, ↓E_bi, ↓ev_bi, ↓E_isi, ↓ev_isi, ↓E_isi2, ↓ev_isi2, ↓E_isC, ↓ev_isC, ↓E_eqO, ↓ev_eqO, ↓E_lc, ↓ev_lc, ↓E_yes, ↓ev_yes, ↓E_eqR, ↓ev_eqR, ↓E_xf, ↓ev_xf, ↓E_fld, ↓ev_fld, ↓E_lenO, ↓ev_lenO, ↓E_tupO, ↓ev_tupO, ↓E_lend, ↓ev_lend, ↓E_lstO, ↓ev_lstO, ↓noD_ret, ↓noD_exn, ↓noD_bad, ↓E_ixO, ↓ev_ixO, ↓E_slcO, ↓ev_slcO, ↓S_nop, ↓es_nop, ↓S_seq, ↓es_seq, ↓S_asg, ↓es_asg, ↓S_asgO, ↓es_asgO, ↓S_par, ↓es_par, ↓S_app, ↓es_app, ↓S_setO, ↓es_setO, ↓S_ret, ↓es_ret, ↓S_retN, ↓es_retN, ↓S_ite, ↓es_ite, ↓S_for, ↓es_for, ↓S_whl, ↓es_whl, ↓S_rse, ↓es_rse, ↓S_try, ↓es_try, ↓S_hnil, ↓S_hcons, ↓es_hcons, ↓S_drop, ↓es_drop, ↓S_keep, ↓es_keep, ↓S_brk, ↓es_brk, ↓S_cnt, ↓es_cnt, ↓S_retO, ↓es_retO, ↓S_asgC, ↓es_asgC, ↓pgm_fr, ↓at_, getV, getO, isiD, D.isNon, op2, o2_add, o2_sub, o2_lt, o2_le, o2_gt, o2_ge, o2_isB, o2_isnB, biD, bi_lenD, bi_absD, bi_intD, bi_listD, bi_tupleD, bi_gcd2D, bi_gcd3D, bi_min2D, bi_max2D, Fl.res, ↓runD, startD, E_newO, ev_newO, toB, truD, optI, slcT, noExc, Sv.isExc, Fl.clr, Fl.off, Sv.clr, evalG, Tg.len, Tg.inn, wipeV, itemsOf, rngL, lcGo, forGo, zipL, enumL, pgm_call, pgm_con, pgm_fld, pgm_xf, pgm_sub, pgm_most, pgm_ok, scaV, dOf, EE.fresh, ix_t10, ix_t20, ix_t21, ix_t30, ix_t31, ix_t32, ix_l10, ix_l20, ix_l21, ix_l30, ix_l31, ix_l32, @o2_eq_int, @o2_ne_int, *])
theorem lcGo_ks {F : D → Tr Xn (Option D)} {f h : Nat → D} : ∀ {ks : List Nat} {acc : List D}, (∀ k ∈ ks, F (f k) = .ret (some (h k))) → lcGo F (ks.map f) acc = .ret (.lst (acc ++ ks.map h))
  | [], acc, _ => by simp [lcGo]
  | x :: xs, acc, k => by
    rw [List.map_cons, lcGo, k x (by simp)]
    show lcGo F (xs.map f) (acc ++ [h x]) = _
    rw [lcGo_ks fun y m => k y (List.mem_cons_of_mem _ m)]
    simp
theorem lck_ev {Γ : Pgm} {ρ : Vars} {k : ItK} {it e : EE} {i : Nat} {d : D} {ks : List Nat} {f h : Nat → D} (hit : evalE Γ it ρ = .ret d) (hk : itemsOf k d = some (ks.map f)) (hl : ks.length ≤ 10000) (hi : i < ρ.length) (H : ∀ j, j ∈ ks → evalE Γ e (ρ.set i (.dat (f j))) = .ret (h j)) : evalE Γ (.lc k it (.name i) .yes e [i]) ρ = .ret (.lst (ks.map h)) := by
  rw [E_lc, ev_lc, hit]
  simp only [bind_ret]
  rw [hk]
  have c : (ks.map f).length ≤ 10000 ∧ Tg.inn (.name i) [i] = true := ⟨by simpa using hl, by simp [Tg.inn]⟩
  simp only [if_pos c]
  rw [lcGo_ks (h := h) (by
    intro j mj
    have gg : evalG false (.name i) (f j) (wipeV ρ [i]) = some (ρ.set i (.dat (f j))) := by simp [evalG, wipeV, hi]
    rw [gg]
    show ((evalE Γ e (ρ.set i (.dat (f j)))).noX.bind fun y => ret (some y)) = _
    rw [H j mj]; rfl)]
  rfl
abbrev ks8 : List Nat := [0, 1, 2, 3, 4, 5, 6, 7]
theorem mem8 {k : Nat} (h : k ∈ ks8) : k < 8 := by
  simp only [List.mem_cons, List.not_mem_nil, or_false] at h
  omega
def one (d : D) : D := .tup [d, .int 1]
def pD (a b c : Int) (k : Nat) : D := .tup [one (.int (a * bit k 0)), one (.int (b * bit k 1)), one (.int (c * bit k 2))]
theorem tupl_ev {Γ : Pgm} {ρ : Vars} {e : EE} {l : List D} (h : evalE Γ e ρ = .ret (.lst l)) : evalE Γ (.bi .tuple (.cons e .nil)) ρ = .ret (.tup l) := by
  rw [E_bi, ev_bi, E_cons, ev_cons, h]; rfl
section
variable {a b c : Int}
theorem cps_run (n : Nat) (ha : Sd a) (hb : Sd b) (hc : Sd c) : tx.run (n + 3) 37 [bx [a, b, c]] = .ret (.tup (ks8.map (pD a b c))) := by
  have hrun : tx.run (n + 3) 37 [bx [a, b, c]] = ((evalS (tx.pgm (n + 2)) b_Box_corner_places none [.dat (bx [a, b, c]), .unk, .unk, .unk, .unk]).bind Fl.res).mapX (·.1) := rfl
  have Sh : b_Box_corner_places = .seq (.asg (.name 1) (.lc .rng1 (.cons (.lit (.int 8)) .nil) (.name 2) .yes (.call 5 false [] (.cons (.var 0) (.cons (.var 2) .nil))) [2])) (.ret (.bi .tuple (.cons (.lc .seq (.var 1) (.name 4) .yes (.bi .tuple (.cons (.lc .seq (.var 4) (.name 3) .yes (.tup (.cons (.var 3) (.cons (.lit (.int 1)) .nil))) [3]) .nil)) [4]) .nil))) := rfl
  have L1 : evalE (tx.pgm (n + 2)) (.lc .rng1 (.cons (.lit (.int 8)) .nil) (.name 2) .yes (.call 5 false [] (.cons (.var 0) (.cons (.var 2) .nil))) [2]) [.dat (bx [a, b, c]), .unk, .unk, .unk, .unk] = .ret (.lst (ks8.map (cnD a b c))) :=
    lck_ev (d := .tup [.int 8]) (ks := ks8) (f := fun k => .int (k : Int)) rfl rfl (by decide) (show 2 < 5 by decide) fun j mj => call2r (x := bx [a, b, c]) (y := .int (j : Int)) rfl rfl (cn_run n (mem8 mj) ha hb hc)
  have A := asg_to (i := 1) L1 (show 1 < 5 by decide)
  have L2 : evalE (tx.pgm (n + 2)) (.lc .seq (.var 1) (.name 4) .yes (.bi .tuple (.cons (.lc .seq (.var 4) (.name 3) .yes (.tup (.cons (.var 3) (.cons (.lit (.int 1)) .nil))) [3]) .nil)) [4]) [.dat (bx [a, b, c]), .dat (.lst (ks8.map (cnD a b c))), .unk, .unk, .unk] = .ret (.lst (ks8.map (pD a b c))) :=
    lck_ev (d := .lst (ks8.map (cnD a b c))) (ks := ks8) (f := cnD a b c) rfl rfl (by decide) (show 4 < 5 by decide) fun j mj => tupl_ev (l := [one (.int (a * bit j 0)), one (.int (b * bit j 1)), one (.int (c * bit j 2))])
      (lcm_ev (d := cnD a b c j) (l := [.int (a * bit j 0), .int (b * bit j 1), .int (c * bit j 2)]) (g := one) rfl rfl (by simp) (show 3 < 5 by decide) fun x _ => rfl)
  rw [hrun, Sh, seq_nx A, S_ret, es_ret]
  show (((at_ (evalE (tx.pgm (n + 2)) (.bi .tuple (.cons _ .nil)) [.dat (bx [a, b, c]), .dat (.lst (ks8.map (cnD a b c))), .unk, .unk, .unk]) _).bind _).bind _).mapX _ = _
  rw [tupl_ev L2]
  rfl
theorem skin_run (n : Nat) (ha : Sd a) (hb : Sd b) (hc : Sd c) : tx.run (n + 1) 36 [bx [a, b, c]] = .ret (.int (2 * (a * b + b * c + c * a))) := by
  have l : ∀ {x y : Int}, Sd x → Sd y → 0 ≤ x * y ∧ x * y ≤ 3600 := fun {x y} hx hy => ⟨Int.mul_nonneg (by have := hx.1; omega) (by have := hy.1; omega), by
    have := Int.mul_le_mul hx.2 hy.2 (by have := hy.1; omega) (by decide); omega⟩
  have l1 := l ha hb
  have l2 := l hb hc
  have l3 := l hc ha
  have M1 := mul_sm (a := a) (b := b) (by have := ha; omega) (by have := hb; omega)
  have M2 := mul_sm (a := b) (b := c) (by have := hb; omega) (by have := hc; omega)
  have M3 := mul_sm (a := c) (b := a) (by have := hc; omega) (by have := ha; omega)
  have M4 := mul_sm (a := 2) (b := a * b + b * c + c * a) (by decide) (by omega)
  have F := fldB
  clear ha hb hc l l1 l2 l3
  have e_Box_skin_area : tx.run (n + 1) 36 [bx [a, b, c]] = runD (tx.pgm (n)) ⟨1, 4, b_Box_skin_area⟩ [bx [a, b, c]] := rfl
  rw [e_Box_skin_area, b_Box_skin_area]; clear e_Box_skin_area
  walk_at "nw"
theorem tup_sides (n : Nat) (l : List Int) (h : l.length ≤ 100) : tx.run (n + 2) 19 [.tup (tI l)] = .ret (.bl true) := tups_run (n + 1) (by simp; omega) fun x m => by
  obtain ⟨i, _, rfl⟩ := List.mem_map.mp m
  exact tup_int n i
theorem tup_places (n : Nat) : tx.run (n + 4) 19 [.tup (ks8.map (pD a b c))] = .ret (.bl true) := tups_run (n + 3) (by simp) fun x m => by
  obtain ⟨k, _, rfl⟩ := List.mem_map.mp m
  refine tups_run (n + 2) (by simp) fun y my => ?_
  have two : ∀ i : Int, tx.run (n + 2) 19 [one (.int i)] = .ret (.bl true) := fun i => tup_sides n [i, 1] (by simp)
  simp only [List.mem_cons, List.not_mem_nil, or_false] at my
  rcases my with rfl | rfl | rfl
  · exact two _
  · exact two _
  · exact two _
end
end K02
set_option Elab.async false
set_option maxRecDepth 100000
set_option maxHeartbeats 4000000
set_option linter.all false
namespace K02
open PySem Ez Tr
local macro_rules | `(tactic| walk_at "nw") => `(tactic| simp [↓bind_T, ↓bindT_ret, ↓bindT_exn, ↓bindT_bad, ↓bindT_draw, ↓mapX_ret, ↓mapX_exn, ↓mapX_bad, ↓mapX_draw, ↓noX_ret, ↓noX_exn, ↓noX_bad, ↓noX_draw, ↓catch_T, ↓catT_ret, ↓catT_exn, ↓catT_bad, ↓catT_draw, ↓E_star, ↓ev_star, seqL, ↓E_var, ↓ev_var, ↓E_lit, ↓ev_lit, ↓E_con, ↓ev_con, ↓E_fnv, ↓ev_fnv, ↓E_clv, ↓ev_clv, ↓E_op, ↓ev_op, ↓E_neg, ↓ev_neg, ↓E_and, ↓ev_and, ↓E_or, ↓ev_or, ↓E_not, ↓ev_not, ↓E_notT, ↓ev_notT, ↓E_isN, ↓ev_isN, ↓E_notN, ↓ev_notN, ↓E_tru, ↓ev_tru, ↓E_chain, ↓ev_chain, ↓E_ifx, ↓ev_ifx, ↓E_nil, ↓ev_nil, ↓E_cons, ↓ev_cons, ↓E_tup, ↓ev_tup, ↓E_lst, ↓ev_lst, ↓E_slc, ↓ev_slc, ↓E_nop, ↓ev_nop, ↓E_part, ↓ev_part, ↓E_call, ↓ev_call, ↓E_callV, ↓ev_callV, ↓E_take, ↓ev_take, ↓E_bi, ↓ev_bi, ↓E_isi, ↓ev_isi, ↓E_isi2, ↓ev_isi2, ↓E_isC, ↓ev_isC, ↓E_eqO, ↓ev_eqO, ↓E_lc, ↓ev_lc, ↓E_yes, ↓ev_yes, ↓E_eqR, ↓ev_eqR, ↓E_xf, ↓ev_xf, ↓E_fld, ↓ev_fld, ↓E_lenO, ↓ev_lenO, ↓E_tupO, ↓ev_tupO, ↓E_lend, ↓ev_lend, ↓E_lstO, ↓ev_lstO, ↓noD_ret, ↓noD_exn, ↓noD_bad, ↓E_ixO, ↓ev_ixO, ↓E_slcO, ↓ev_slcO, ↓S_nop, ↓es_nop, ↓S_seq, ↓es_seq, ↓S_asg, ↓es_asg, ↓S_asgO, ↓es_asgO, ↓S_par, ↓es_par, ↓S_app, ↓es_app, ↓S_setO, ↓es_setO, ↓S_ret, ↓es_ret, ↓S_retN, ↓es_retN, ↓S_ite, ↓es_ite, ↓S_for, ↓es_for, ↓S_whl, ↓es_whl, ↓S_rse, ↓es_rse, ↓S_try, ↓es_try, ↓S_hnil, ↓S_hcons, ↓es_hcons, ↓S_drop, ↓es_drop, ↓S_keep, ↓es_keep, ↓S_brk, ↓es_brk, ↓S_cnt, ↓es_cnt, ↓S_retO, ↓es_retO, ↓S_asgC, ↓es_asgC, ↓pgm_fr, ↓at_, getV, getO, isiD, D.isNon, op2, o2_add, o2_sub, o2_lt, o2_le, o2_gt, o2_ge, o2_isB, o2_isnB, biD, bi_lenD, bi_absD, bi_intD, bi_listD, bi_tupleD, bi_gcd2D, bi_gcd3D, bi_min2D, bi_max2D, Fl.res, ↓runD, startD, E_newO, ev_newO, toB, truD, optI, slcT, noExc, Sv.isExc, Fl.clr, Fl.off, Sv.clr, evalG, Tg.len, Tg.inn, wipeV, itemsOf, rngL, lcGo, forGo, zipL, enumL, pgm_call, pgm_con, pgm_fld, pgm_xf, pgm_sub, pgm_most, pgm_ok, scaV, dOf, EE.fresh, ix_t10, ix_t20, ix_t21, ix_t30, ix_t31, ix_t32, ix_l10, ix_l20, ix_l21, ix_l30, ix_l31, ix_l32, @o2_eq_int, @o2_ne_int, *])
theorem op_all {Γ : Pgm} {ρ : Vars} {o : Op2} {a b : EE} {P Q S : D → Prop} (A : All True P (fun _ => False) (evalE Γ a ρ)) (B : All True Q (fun _ => False) (evalE Γ b ρ)) (O : ∀ x y, P x → Q y → All True S (fun _ => False) (op2 o x y)) : All True S (fun _ => False) (evalE Γ (.op o a b) ρ) := by
  rw [E_op, ev_op]
  exact All.bnd0 A fun x px => All.bnd0 B fun y qy => O x y px qy
theorem is_all {Γ : Pgm} {ρ : Vars} {e : EE} {d : D} (E : evalE Γ e ρ = .ret d) : All True (fun x => x = d) (fun _ => False) (evalE Γ e ρ) := by rw [E]; exact rfl
theorem ret_all {Γ : Pgm} {e : EE} {ρ : Vars} {Q : D → Prop} (h : All True Q (fun _ => False) (evalE Γ e ρ)) : All True (fun fl => ∃ x ρ', fl = .rt x ρ' ∧ Q x) (fun _ => False) (evalS Γ (.ret e) none ρ) := by
  rw [S_ret, es_ret]
  exact All.bndA h fun d q => ⟨d, ρ, rfl, q⟩
/-- a list of three, the middle asked -/
theorem lst3_all {Γ : Pgm} {ρ : Vars} {e1 e2 e3 : EE} {x z : D} {P : D → Prop} (h1 : evalE Γ e1 ρ = .ret x) (h2 : All True P (fun _ => False) (evalE Γ e2 ρ)) (h3 : evalE Γ e3 ρ = .ret z) : All True (fun d => ∃ y, P y ∧ d = .lst [x, y, z]) (fun _ => False) (evalE Γ (.lst (.cons e1 (.cons e2 (.cons e3 .nil)))) ρ) := by
  have T : All True (fun d => ∃ y, P y ∧ d = .tup [y, z]) (fun _ => False) (evalE Γ (.cons e2 (.cons e3 .nil)) ρ) := by
    rw [E_cons, ev_cons]
    refine All.bnd0 h2 fun y py => ?_
    rw [E_cons, ev_cons, h3]
    exact ⟨y, py, rfl⟩
  rw [E_lst, ev_lst, E_cons, ev_cons, h1]
  show All True _ _ (((evalE Γ (.cons e2 (.cons e3 .nil)) ρ).bind fun | .tup xs => (if xs.length < 10000 then (ret (.tup (x :: xs)) : R) else bad) | _ => bad).bind _)
  refine All.bnd0 (P := fun d => ∃ y, P y ∧ d = .tup [x, y, z]) (All.bnd0 T ?_) ?_
  · rintro _ ⟨y, py, rfl⟩
    exact ⟨y, py, rfl⟩
  · rintro _ ⟨y, py, rfl⟩
    exact ⟨y, py, rfl⟩
/-- a list of two, the first asked -/
theorem lst2_all {Γ : Pgm} {ρ : Vars} {e1 e2 : EE} {z : D} {P : D → Prop} (h1 : All True P (fun _ => False) (evalE Γ e1 ρ)) (h2 : evalE Γ e2 ρ = .ret z) : All True (fun d => ∃ y, P y ∧ d = .lst [y, z]) (fun _ => False) (evalE Γ (.lst (.cons e1 (.cons e2 .nil))) ρ) := by
  rw [E_lst, ev_lst, E_cons, ev_cons]
  refine All.bnd0 (P := fun d => ∃ y, P y ∧ d = .tup [y, z]) (All.bnd0 h1 fun y py => ?_) ?_
  · rw [E_cons, ev_cons, h2]
    exact ⟨y, py, rfl⟩
  · rintro _ ⟨y, py, rfl⟩
    exact ⟨y, py, rfl⟩
def rids : List D := [.non, .int 7, .str (Str.ofString "012"), .bl true]
theorem rid_all : All True (fun d => d ∈ rids) (fun _ => False) (tx.run 11 21 [.hand]) := All.mono (fun _ z => memB_of z) (fun _ z => z) (of_chk (P := fun d => memB d rids) (X := fun _ => false) (by decide +kernel) fun _ => rfl)
theorem odd_all : All True (fun d => d ∈ odds 60) (fun _ => False) (tx.run 11 20 [.hand, .int 60]) := All.mono (fun _ z => memB_of z) (fun _ z => z) (of_chk (P := fun d => memB d (odds 60)) (X := fun _ => false) (by decide +kernel) fun _ => rfl)
/-- refused, at k -/
def Ref (d : D) (k : Int) : Prop := ∀ n, tx.run (n + 2) 34 [d] = .exn ⟨1, [.int k]⟩
theorem ref_rid {d : D} (h : d ∈ rids) : Ref d 0 := fun n => box_no n (by
  unfold rids at h
  simp only [List.mem_cons, List.not_mem_nil, or_false] at h
  rcases h with rfl | rfl | rfl | rfl <;> rfl)
section
variable {a b c : Int}
abbrev sd3 (a b c : Int) : D := .lst (tI [a, b, c])
theorem ref_two : Ref (.lst (tI [a, b])) 0 := fun n => box_no n rfl
theorem ref_four : Ref (.lst (tI [a, b, c, 1])) 0 := fun n => box_no n rfl
theorem ref_nil : Ref (.lst []) 0 := fun n => box_no n rfl
theorem ref_ent {e0 e1 e2 : D} {g0 g1 g2 : Bool} {k : Int} (h0 : Ent e0 g0) (h1 : Ent e1 g1) (h2 : Ent e2 g2) (hk : fst3 g0 g1 g2 = some k) : Ref (.lst [e0, e1, e2]) k := fun n => by
  rw [box_run3 n (.inl rfl) (isw_ent n h0) (isw_ent n h1) (isw_ent n h2), hk]
/-- what _law_spoilt gives -/
def SpOk (a b c : Int) (d : D) : Prop := d = .lst [sd3 a b c, .non] ∨ ∃ rows k, d = .lst [rows, .int k] ∧ Ref rows k
noncomputable abbrev sp (k : Nat) : SS := firstS (rests b__law_spoilt k)
abbrev spF : EE := .op .ix (.lc .rng1 (.cons (.lit (.int 3)) .nil) (.name 5) (.not (.call 22 false [] (.cons (.ixO 3 (.var 5)) (.cons (.lit (.int 1)) (.cons (.lit (.int 60)) .nil))))) (.var 5) [5]) (.lit (.int 0))
theorem sp_first (n : Nat) {e0 e1 e2 : D} {g0 g1 g2 : Bool} {k : Int} (h0 : Ent e0 g0) (h1 : Ent e1 g1) (h2 : Ent e2 g2) (hk : fst3 g0 g1 g2 = some k) (s0 s1 s2 s4 : Sv) :
    evalE (tx.pgm (n + 1)) spF [s0, s1, s2, .dat (.lst [e0, e1, e2]), s4, .unk] = .ret (.int k) := by
  have W0 := lw_ent n h0
  have W1 := lw_ent n h1
  have W2 := lw_ent n h2
  clear h0 h1 h2
  cases g0
  · cases hk
    cases g1 <;> cases g2 <;> (walk_at "nw")
  · cases g1
    · cases hk
      cases g2 <;> (walk_at "nw")
    · cases g2
      · cases hk
        walk_at "nw"
      · cases hk
end
end K02
set_option Elab.async false
set_option maxRecDepth 100000
set_option maxHeartbeats 4000000
set_option linter.all false
namespace K02
open PySem Ez Tr
/-- three entries, each told -/
def Es (P : Bool → Bool → Bool → Prop) (l : List D) : Prop := ∃ e0 e1 e2 g0 g1 g2, l = [e0, e1, e2] ∧ Ent e0 g0 ∧ Ent e1 g1 ∧ Ent e2 g2 ∧ P g0 g1 g2
abbrev spB : SS := .setO 3 (.take (.cons (.var 0) (.cons (.lit (.int 3)) .nil))) (.op .ix (.lst (.cons (.lit (.int 0)) (.cons (.call 20 true [] (.cons (.var 0) (.cons (.lit (.int 60)) .nil))) (.cons (.lit (.int 61)) .nil)))) (.take (.cons (.var 0) (.cons (.lit (.int 3)) .nil))))
theorem ix3 {Γ : Pgm} {x y z : D} {v : Int} (h : 0 ≤ v ∧ v < 3) : ∃ d, op2 .ix (.lst [x, y, z]) (.int v) = .ret d ∧ (d = x ∨ d = y ∨ d = z) := by
  have c : v = 0 ∨ v = 1 ∨ v = 2 := by omega
  rcases c with rfl | rfl | rfl
  · exact ⟨x, rfl, .inl rfl⟩
  · exact ⟨y, rfl, .inr (.inl rfl)⟩
  · exact ⟨z, rfl, .inr (.inr rfl)⟩
theorem bad_mem {d : D} (h : d ∈ bads) : Ent d false := .inr ⟨rfl, h⟩
theorem spB_val (ρ : Vars) (h0 : ρ[0]? = some (.dat .hand)) : All True (fun d => Ent d false) (fun _ => False) (evalE (tx.pgm 11) (.op .ix (.lst (.cons (.lit (.int 0)) (.cons (.call 20 true [] (.cons (.var 0) (.cons (.lit (.int 60)) .nil))) (.cons (.lit (.int 61)) .nil)))) (.take (.cons (.var 0) (.cons (.lit (.int 3)) .nil)))) ρ) := by
  have V : evalE (tx.pgm 11) (.var 0) ρ = .ret .hand := by rw [E_var, ev_var, getV, h0]
  have O : All True (fun d => d ∈ odds 60) (fun _ => False) (evalE (tx.pgm 11) (.call 20 true [] (.cons (.var 0) (.cons (.lit (.int 60)) .nil))) ρ) := by
    have e : evalE (tx.pgm 11) (.call 20 true [] (.cons (.var 0) (.cons (.lit (.int 60)) .nil))) ρ = tx.run 11 20 [.hand, .int 60] := by
      rw [E_call, ev_call, E_cons, ev_cons, V]; rfl
    rw [e]; exact odd_all
  refine op_all (lst3_all (x := .int 0) (z := .int 61) rfl O rfl) (takeH_all h0 (by decide) (by decide)) ?_
  rintro _ _ ⟨y, hy, rfl⟩ ⟨v, hv, rfl⟩
  obtain ⟨d, e, hd⟩ := ix3 (Γ := tx.pgm 11) (x := .int 0) (y := y) (z := .int 61) hv
  rw [e]
  refine bad_mem ?_
  unfold bads
  rcases hd with rfl | rfl | rfl
  · exact List.mem_append_right _ (by simp)
  · exact List.mem_append_left _ hy
  · exact List.mem_append_right _ (by simp)
def Bad (g0 g1 g2 : Bool) : Prop := ∃ k, fst3 g0 g1 g2 = some k
theorem es_set {P : Bool → Bool → Bool → Prop} {l : List D} (h : Es P l) {d : D} (hd : Ent d false) {v : Int} (hv : 0 ≤ v ∧ v < 3) : ∃ j, L2.ixN l.length v = some j ∧ Es Bad (l.set j d) := by
  obtain ⟨e0, e1, e2, g0, g1, g2, rfl, h0, h1, h2, _⟩ := h
  have c : v = 0 ∨ v = 1 ∨ v = 2 := by omega
  rcases c with rfl | rfl | rfl
  · exact ⟨0, rfl, d, e1, e2, false, g1, g2, rfl, hd, h1, h2, 0, rfl⟩
  · refine ⟨1, rfl, e0, d, e2, g0, false, g2, rfl, h0, hd, h2, ?_⟩
    cases g0
    · exact ⟨0, rfl⟩
    · exact ⟨1, rfl⟩
  · refine ⟨2, rfl, e0, e1, d, g0, g1, false, rfl, h0, h1, hd, ?_⟩
    cases g0
    · exact ⟨0, rfl⟩
    · cases g1
      · exact ⟨1, rfl⟩
      · exact ⟨2, rfl⟩
section
variable {a b c : Int}
def spV (a b c : Int) (v : Int) (l : List D) (x : Sv) : Vars := [.dat .hand, .dat (sd3 a b c), .dat (.int v), .own l, x, .unk]
theorem spB_goes {P : Bool → Bool → Bool → Prop} {v : Int} {l : List D} (h : Es P l) (x : Sv) : Ez.Goes (tx.pgm 11) spB (fun ρ => ∃ l', Es Bad l' ∧ ρ = spV a b c v l' x) (spV a b c v l x) := by
  rw [Ez.Goes, S_setO, es_setO]
  show All True _ _ ((at_ (evalE (tx.pgm 11) _ (spV a b c v l x)) (spV a b c v l x)).bind fun d => (at_ (evalE (tx.pgm 11) _ (spV a b c v l x)) (spV a b c v l x)).bind fun
      | .int k => (match L2.ixN l.length k with | some j => (ret (.nx ((spV a b c v l x).set 3 (.own (l.set j d)))) : RS) | none => bad)
      | _ => bad)
  refine All.bndA (spB_val _ rfl) fun d hd => All.bndA (takeH_all (i := 0) rfl (by decide) (by decide)) ?_
  rintro _ ⟨k, hk, rfl⟩
  obtain ⟨j, e, h'⟩ := es_set h hd hk
  show All True _ _ (match L2.ixN l.length k with | some j => (ret (.nx ((spV a b c v l x).set 3 (.own (l.set j d)))) : RS) | none => bad)
  rw [e]
  exact ⟨_, rfl, _, h', rfl⟩
theorem spFor {v : Int} : ∀ (xs : List D) {l : List D}, Es Bad l → ∀ x, All True (Fl.gone fun ρ => ∃ l' x', Es Bad l' ∧ ρ = spV a b c v l' x') (fun _ => False) (forGo (fun x ρ => match evalG false (.name 4) x ρ with | some ρ' => evalS (tx.pgm 11) spB none ρ' | none => bad) xs (spV a b c v l x))
  | [], l, h, x => ⟨l, x, h, rfl⟩
  | y :: ys, l, h, x => by
    rw [forGo]
    show All True _ _ ((evalS (tx.pgm 11) spB none (spV a b c v l (.dat y))).bind _)
    refine All.bnd0 (spB_goes h (.dat y)) ?_
    rintro _ ⟨ρ', rfl, l', h', rfl⟩
    exact spFor ys h' _
theorem spFor1 {v : Int} {y : D} {ys : List D} {l : List D} (h : Es (fun _ _ _ => True) l) (x : Sv) : All True (Fl.gone fun ρ => ∃ l' x', Es Bad l' ∧ ρ = spV a b c v l' x') (fun _ => False) (forGo (fun x ρ => match evalG false (.name 4) x ρ with | some ρ' => evalS (tx.pgm 11) spB none ρ' | none => bad) (y :: ys) (spV a b c v l x)) := by
  rw [forGo]
  show All True _ _ ((evalS (tx.pgm 11) spB none (spV a b c v l (.dat y))).bind _)
  refine All.bnd0 (spB_goes h (.dat y)) ?_
  rintro _ ⟨ρ', rfl, l', h', rfl⟩
  exact spFor ys h' _
end
end K02
set_option Elab.async false
set_option maxRecDepth 100000
set_option maxHeartbeats 4000000
set_option linter.all false
namespace K02
open PySem Ez Tr
def Rt (Q : D → Prop) (fl : Fl) : Prop := ∃ x ρ', fl = .rt x ρ' ∧ Q x
theorem seq_rtA {Γ : Pgm} {A B : SS} {ρ : Vars} {Q : D → Prop} (h : All True (Rt Q) (fun _ => False) (evalS Γ A none ρ)) : All True (Rt Q) (fun _ => False) (evalS Γ (.seq A B) none ρ) := by
  rw [S_seq, es_seq]
  refine All.bnd0 h ?_
  rintro _ ⟨x, ρ', rfl, q⟩
  exact ⟨x, ρ', rfl, q⟩
theorem eqi_ev {Γ : Pgm} {ρ : Vars} {e : EE} {v w : Int} (h : evalE Γ e ρ = .ret (.int v)) : evalE Γ (.op .eq e (.lit (.int w))) ρ = .ret (.bl (decide (v = w))) := op_ev (o := .eq) (x := .int v) (y := .int w) h rfl o2_eq_int
section
variable {a b c : Int}
abbrev r2 (a b c v : Int) : Vars := [.dat .hand, .dat (sd3 a b c), .dat (.int v), .unk, .unk, .unk]
theorem sp1 (v : Int) : All True (Rt (SpOk a b c)) (fun _ => False) (evalS (tx.pgm 11) (.ret (.lst (.cons (.call 21 true [] (.cons (.var 0) .nil)) (.cons (.lit (.int 0)) .nil)))) none (r2 a b c v)) := by
  refine ret_all (All.mono ?_ (fun _ z => z) (lst2_all (P := fun d => d ∈ rids) (z := .int 0) ?_ rfl))
  · rintro _ ⟨y, hy, rfl⟩
    exact .inr ⟨y, 0, rfl, ref_rid hy⟩
  · rw [call1_ev (x := .hand) rfl]
    exact rid_all
theorem sp2 (v : Int) : All True (Rt (SpOk a b c)) (fun _ => False) (evalS (tx.pgm 11) (.ret (.lst (.cons (.op .ix (.lst (.cons (.slc (.var 1) .nop (.part (.lit (.int 2)))) (.cons (.op .add (.var 1) (.lst (.cons (.lit (.int 1)) .nil))) (.cons (.lst .nil) .nil)))) (.take (.cons (.var 0) (.cons (.lit (.int 3)) .nil)))) (.cons (.lit (.int 0)) .nil)))) none (r2 a b c v)) := by
  have V1 : evalE (tx.pgm 11) (.var 1) (r2 a b c v) = .ret (sd3 a b c) := rfl
  have E1 : evalE (tx.pgm 11) (.slc (.var 1) .nop (.part (.lit (.int 2)))) (r2 a b c v) = .ret (.lst (tI [a, b])) := rfl
  have E2 : evalE (tx.pgm 11) (.op .add (.var 1) (.lst (.cons (.lit (.int 1)) .nil))) (r2 a b c v) = .ret (.lst (tI [a, b, c, 1])) := rfl
  have E3 : evalE (tx.pgm 11) (.lst .nil) (r2 a b c v) = .ret (.lst []) := rfl
  refine ret_all (All.mono ?_ (fun _ z => z) (lst2_all (P := fun d => Ref d 0) (z := .int 0) (op_all (lst3_all (P := fun d => d = .lst (tI [a, b, c, 1])) E1 (is_all E2) E3) (takeH_all (i := 0) rfl (by decide) (by decide)) ?_) rfl))
  · rintro _ ⟨y, hy, rfl⟩
    exact .inr ⟨y, 0, rfl, hy⟩
  · rintro _ _ ⟨_, rfl, rfl⟩ ⟨v, hv, rfl⟩
    obtain ⟨d, e, hd⟩ := ix3 (Γ := tx.pgm 11) (x := .lst (tI [a, b])) (y := .lst (tI [a, b, c, 1])) (z := .lst []) hv
    rw [e]
    rcases hd with rfl | rfl | rfl
    · exact ref_two
    · exact ref_four
    · exact ref_nil
theorem sp3 (ha : Sd a) (hb : Sd b) (hc : Sd c) (v : Int) : All True (Rt (SpOk a b c)) (fun _ => False) (evalS (tx.pgm 11) (.seq (.asgO 3 (.bi .list (.cons (.var 1) .nil))) (.seq (.for .rng1 (.cons (.op .add (.lit (.int 1)) (.take (.cons (.var 0) (.cons (.lit (.int 2)) .nil)))) .nil) (.name 4) spB) (.keep 3 (.ret (.lst (.cons (.var 3) (.cons spF .nil))))))) none (r2 a b c v)) := by
  have A : evalS (tx.pgm 11) (.asgO 3 (.bi .list (.cons (.var 1) .nil))) none (r2 a b c v) = .ret (.nx (spV a b c v (tI [a, b, c]) .unk)) := rfl
  rw [seq_nx A]
  have H0 : Es (fun _ _ _ => True) (tI [a, b, c]) := ⟨_, _, _, true, true, true, rfl, .inl ⟨rfl, a, ha, rfl⟩, .inl ⟨rfl, b, hb, rfl⟩, .inl ⟨rfl, c, hc, rfl⟩, trivial⟩
  have F : Ez.Goes (tx.pgm 11) (.for .rng1 (.cons (.op .add (.lit (.int 1)) (.take (.cons (.var 0) (.cons (.lit (.int 2)) .nil)))) .nil) (.name 4) spB) (fun ρ => ∃ l' x', Es Bad l' ∧ ρ = spV a b c v l' x') (spV a b c v (tI [a, b, c]) .unk) := by
    refine gone_nx ?_
    rw [S_for, es_for]
    have I : All True (fun d => ∃ w : Int, (0 ≤ w ∧ w < 2) ∧ d = .tup [.int (1 + w)]) (fun _ => False) (evalE (tx.pgm 11) (.cons (.op .add (.lit (.int 1)) (.take (.cons (.var 0) (.cons (.lit (.int 2)) .nil)))) .nil) (spV a b c v (tI [a, b, c]) .unk)) := by
      rw [E_cons, ev_cons]
      refine All.bnd0 (P := fun d => ∃ w : Int, (0 ≤ w ∧ w < 2) ∧ d = .int (1 + w)) (op_all (is_all (d := .int 1) rfl) (takeH_all (i := 0) rfl (by decide) (by decide)) ?_) ?_
      · rintro _ _ rfl ⟨w, hw, rfl⟩
        exact ⟨w, hw, rfl⟩
      · rintro _ ⟨w, hw, rfl⟩
        exact ⟨w, hw, rfl⟩
    refine All.bndA I ?_
    rintro _ ⟨w, hw, rfl⟩
    have c : w = 0 ∨ w = 1 := by omega
    rcases c with rfl | rfl
    · exact spFor1 (y := .int 0) (ys := []) H0 .unk
    · exact spFor1 (y := .int 0) (ys := [.int 1]) H0 .unk
  refine goes F ?_
  rintro _ ⟨l', x', ⟨e0, e1, e2, g0, g1, g2, rfl, h0, h1, h2, k, hk⟩, rfl⟩
  have K : evalS (tx.pgm 11) (.keep 3 (.ret (.lst (.cons (.var 3) (.cons spF .nil))))) none (spV a b c v [e0, e1, e2] x') = evalS (tx.pgm 11) (.ret (.lst (.cons (.var 3) (.cons spF .nil)))) none [.dat .hand, .dat (sd3 a b c), .dat (.int v), .dat (.lst [e0, e1, e2]), x', .unk] := rfl
  rw [K]
  have E : evalE (tx.pgm 11) (.lst (.cons (.var 3) (.cons spF .nil))) [.dat .hand, .dat (sd3 a b c), .dat (.int v), .dat (.lst [e0, e1, e2]), x', .unk] = .ret (.lst [.lst [e0, e1, e2], .int k]) := by
    rw [E_lst, ev_lst, E_cons, ev_cons, E_cons, ev_cons, sp_first 10 h0 h1 h2 hk]
    rfl
  rw [S_ret, es_ret, E]
  exact ⟨_, _, rfl, .inr ⟨_, k, rfl, ref_ent h0 h1 h2 hk⟩⟩
theorem spoilt_body (ha : Sd a) (hb : Sd b) (hc : Sd c) : All True (Rt (SpOk a b c)) (fun _ => False) (evalS (tx.pgm 11) b__law_spoilt none [.dat .hand, .dat (sd3 a b c), .unk, .unk, .unk, .unk]) := by
  have Sh : b__law_spoilt = .seq (.asg (.name 2) (.take (.cons (.var 0) (.cons (.lit (.int 8)) .nil)))) (.seq (sp 1) (.seq (sp 2) (.seq (sp 3) (rests b__law_spoilt 4)))) := rfl
  rw [Sh]
  refine goes (asg_goes (i := 2) (takeH_all (i := 0) rfl (by decide) (by decide)) (show 2 < 6 by decide)) ?_
  rintro _ ⟨_, ⟨v, hv, rfl⟩, rfl⟩
  show All True _ _ (evalS (tx.pgm 11) _ none (r2 a b c v))
  have T0 : evalE (tx.pgm 11) (.op .eq (.var 2) (.lit (.int 0))) (r2 a b c v) = .ret (.bl (decide (v = 0))) := eqi_ev rfl
  have T1 : evalE (tx.pgm 11) (.op .eq (.var 2) (.lit (.int 1))) (r2 a b c v) = .ret (.bl (decide (v = 1))) := eqi_ev rfl
  have T2 : evalE (tx.pgm 11) (.op .lt (.var 2) (.lit (.int 5))) (r2 a b c v) = .ret (.bl (decide (v < 5))) := op_ev (o := .lt) (x := .int v) (y := .int 5) rfl rfl rfl
  by_cases z0 : v = 0
  · rw [decide_eq_true z0] at T0
    refine seq_rtA ?_
    rw [show evalS (tx.pgm 11) (sp 1) none (r2 a b c v) = _ from ite_t T0]
    exact sp1 v
  rw [decide_eq_false z0] at T0
  rw [seq_nx (show evalS (tx.pgm 11) (sp 1) none (r2 a b c v) = _ from unless_goes T0)]
  by_cases z1 : v = 1
  · rw [decide_eq_true z1] at T1
    refine seq_rtA ?_
    rw [show evalS (tx.pgm 11) (sp 2) none (r2 a b c v) = _ from ite_t T1]
    exact sp2 v
  rw [decide_eq_false z1] at T1
  rw [seq_nx (show evalS (tx.pgm 11) (sp 2) none (r2 a b c v) = _ from unless_goes T1)]
  by_cases z2 : v < 5
  · rw [decide_eq_true z2] at T2
    refine seq_rtA ?_
    rw [show evalS (tx.pgm 11) (sp 3) none (r2 a b c v) = _ from ite_t T2]
    exact sp3 ha hb hc v
  rw [decide_eq_false z2] at T2
  rw [seq_nx (show evalS (tx.pgm 11) (sp 3) none (r2 a b c v) = _ from unless_goes T2)]
  exact ⟨_, _, rfl, .inl rfl⟩
theorem spoilt_df : tx.df 32 = some ⟨2, 6, b__law_spoilt⟩ := rfl
theorem spoilt_in : tx.ini 32 = none := by rfl
theorem spoilt_fr : tx.fr 32 = false := by rfl
theorem spoilt_all (ha : Sd a) (hb : Sd b) (hc : Sd c) : All True (SpOk a b c) (fun _ => False) (tx.run 12 32 [.hand, sd3 a b c]) :=
  @All.run True tx 11 32 [.hand, sd3 a b c] ⟨2, 6, b__law_spoilt⟩ [.dat .hand, .dat (sd3 a b c), .unk, .unk, .unk, .unk] (SpOk a b c) spoilt_df rfl rfl (spoilt_body ha hb hc) spoilt_in spoilt_fr
end
end K02
set_option Elab.async false
set_option maxRecDepth 100000
set_option maxHeartbeats 4000000
set_option linter.all false
namespace K02
open PySem Ez Tr
theorem asgT_goes {Γ : Pgm} {e : EE} {tg : Tg} {ρ : Vars} {P : D → Prop} {Q : Vars → Prop} (h : All True P (fun _ => False) (evalE Γ e ρ)) (k : ∀ d, P d → ∃ ρ', evalG false tg d ρ = some ρ' ∧ Q ρ') : Ez.Goes Γ (.asg tg e) Q ρ := by
  rw [Ez.Goes, S_asg, es_asg]
  refine All.bndA h fun d p => ?_
  obtain ⟨ρ', e, q⟩ := k d p
  simp only [e]
  exact ⟨_, rfl, q⟩
theorem prp_ev {Γ : Pgm} {ρ : Vars} {e : EE} {l : List Int} {f : Nat} {r : D} (E : evalE Γ e ρ = .ret (bx l)) (R : Γ.call f [bx l] = .ret r) : evalE Γ (.prp 6 f e) ρ = .ret r := by
  rw [E_prp, ev_prp, E]
  show (if 6 = 6 then (Γ.call f [bx l]).noX else bad) = _
  rw [if_pos rfl, R]; rfl
section
variable {a b c : Int}
def lv (a b c : Int) (x4 x5 x6 x7 x8 x9 x10 x11 x12 x14 x15 x16 : Sv) : Vars := [.unk, .dat .hand, .dat (sd3 a b c), .unk, x4, x5, x6, x7, x8, x9, x10, x11, x12, .unk, x14, x15, x16]
abbrev t3 (a b c : Int) : D := .tup (tI [a, b, c])
def G4 (a b c : Int) (x : Sv) : Prop := x = .own (tI [a, b, c]) ∨ x = .dat (t3 a b c)
noncomputable abbrev lw (k : Nat) : SS := firstS (rests b_law k)
theorem sides_all (ρ : Vars) (h1 : ρ[1]? = some (.dat .hand)) (h3 : 3 < ρ.length) : All True (fun d => ∃ a b c, (Sd a ∧ Sd b ∧ Sd c) ∧ d = sd3 a b c) (fun _ => False) (evalE (tx.pgm 12) (.lc .rng1 (.cons (.lit (.int 3)) .nil) (.name 3) .yes (.op .add (.lit (.int 1)) (.take (.cons (.var 1) (.cons (.lit (.int 60)) .nil)))) [3]) ρ) := by
  refine All.mono ?_ (fun _ z => z) (All.lc (P := fun _ d => ∃ u : Int, Sd u ∧ d = .int u) (d := .tup [.int 3]) (l := [.int 0, .int 1, .int 2]) rfl rfl (by decide) h3 fun x _ => ?_)
  · rintro _ ⟨ys, rfl, he⟩
    obtain ⟨_, _, _, rfl, ⟨x, hx, rfl⟩, ⟨y, hy, rfl⟩, ⟨z, hz, rfl⟩⟩ := each3 he
    exact ⟨x, y, z, ⟨hx, hy, hz⟩, rfl⟩
  · have g : (ρ.set 3 (.dat x))[1]? = some (.dat .hand) := by rw [List.getElem?_set_ne (by decide)]; exact h1
    refine op_all (is_all (d := .int 1) rfl) (takeH_all g (by decide) (by decide)) ?_
    rintro _ _ rfl ⟨u, hu, rfl⟩
    exact ⟨1 + u, ⟨by omega, by omega⟩, rfl⟩
theorem shaped_all : All True (fun d => d = sd3 a b c ∨ d = t3 a b c) (fun _ => False) (tx.run 12 24 [.hand, sd3 a b c]) := by
  have hrun : tx.run 12 24 [.hand, sd3 a b c] = ((evalS (tx.pgm 11) b__law_shaped none [.dat .hand, .dat (sd3 a b c)]).bind Fl.resF).mapX (·.1) := rfl
  have Sh : b__law_shaped = .retX (.op .eq (.take (.cons (.var 0) (.cons (.lit (.int 2)) .nil))) (.lit (.int 0))) (.bi .list (.cons (.var 1) .nil)) (.bi .tuple (.cons (.var 1) .nil)) := rfl
  have T : All True (fun d => ∃ b, d = .bl b) (fun _ => False) (evalE (tx.pgm 11) (.op .eq (.take (.cons (.var 0) (.cons (.lit (.int 2)) .nil))) (.lit (.int 0))) [.dat .hand, .dat (sd3 a b c)]) := by
    refine op_all (takeH_all (i := 0) rfl (by decide) (by decide)) (is_all (d := .int 0) rfl) ?_
    rintro _ _ ⟨v, _, rfl⟩ rfl
    show All True _ _ (o2_eq (.int v) (.int 0))
    rw [o2_eq_int]
    exact ⟨_, rfl⟩
  rw [hrun, Sh, S_retX, es_retX]
  refine All.mx0 (All.bnd0 (P := fun fl => fl = .rf (sd3 a b c) [.dat .hand, .dat (sd3 a b c)] ∨ fl = .rt (t3 a b c) [.dat .hand, .dat (sd3 a b c)]) (All.bndA T ?_) ?_)
  · rintro _ ⟨v, rfl⟩
    cases v with
    | true => exact .inl rfl
    | false => exact .inr rfl
  · rintro _ (rfl | rfl)
    · exact .inl rfl
    · exact .inr rfl
theorem lw1_goes (x5 x6 x7 x8 x9 x10 x11 x12 x14 x15 x16 : Sv) : Ez.Goes (tx.pgm 12) (lw 1) (fun ρ => ∃ x4, G4 a b c x4 ∧ ρ = lv a b c x4 x5 x6 x7 x8 x9 x10 x11 x12 x14 x15 x16) (lv a b c .unk x5 x6 x7 x8 x9 x10 x11 x12 x14 x15 x16) := by
  have e : lw 1 = .asgC 4 24 true [] (.cons (.var 1) (.cons (.var 2) .nil)) := rfl
  have A : All True (fun d => d = sd3 a b c ∨ d = t3 a b c) (fun _ => False) (evalE (tx.pgm 12) (.call 24 true [] (.cons (.var 1) (.cons (.var 2) .nil))) (lv a b c .unk x5 x6 x7 x8 x9 x10 x11 x12 x14 x15 x16)) := by
    have q : evalE (tx.pgm 12) (.call 24 true [] (.cons (.var 1) (.cons (.var 2) .nil))) (lv a b c .unk x5 x6 x7 x8 x9 x10 x11 x12 x14 x15 x16) = tx.run 12 24 [.hand, sd3 a b c] := by
      rw [E_call, ev_call, E_cons, ev_cons, E_cons, ev_cons]; rfl
    rw [q]; exact shaped_all
  rw [e, Ez.Goes, S_asgC, es_asgC]
  have c : (tx.pgm 12).fr 24 = true ∧ 4 < (lv a b c .unk x5 x6 x7 x8 x9 x10 x11 x12 x14 x15 x16).length := ⟨rfl, show 4 < 17 by decide⟩
  simp only [if_pos c]
  refine All.bndA A ?_
  rintro _ (rfl | rfl)
  · exact ⟨_, rfl, _, .inl rfl, rfl⟩
  · exact ⟨_, rfl, _, .inr rfl, rfl⟩
theorem box_s (n : Nat) (ha : Sd a) (hb : Sd b) (hc : Sd c) {d : D} (hd : d = sd3 a b c ∨ d = t3 a b c) : tx.run (n + 2) 34 [d] = .ret (bx [a, b, c]) := by
  rw [box_run3 (e0 := .int a) (e1 := .int b) (e2 := .int c) (g0 := true) (g1 := true) (g2 := true) n hd (isw_in n ha) (isw_in n hb) (isw_in n hc)]
  rfl
theorem lw2_run (ha : Sd a) (hb : Sd b) (hc : Sd c) {x4 : Sv} (h : G4 a b c x4) (x6 x7 x8 x9 x10 x11 x12 x14 x15 x16 : Sv) : evalS (tx.pgm 12) (lw 2) none (lv a b c x4 .unk x6 x7 x8 x9 x10 x11 x12 x14 x15 x16) = .ret (.nx (lv a b c x4 (.dat (bx [a, b, c])) x6 x7 x8 x9 x10 x11 x12 x14 x15 x16)) := by
  have e : lw 2 = .asg (.name 5) (.lend 4 (.call 25 true [] (.cons (.var 4) .nil))) := rfl
  have E : evalE (tx.pgm 12) (.lend 4 (.call 25 true [] (.cons (.var 4) .nil))) (lv a b c x4 .unk x6 x7 x8 x9 x10 x11 x12 x14 x15 x16) = .ret (bx [a, b, c]) := by
    rw [E_lend, ev_lend]
    rcases h with rfl | rfl
    · show (evalE (tx.pgm 12) (.call 25 true [] (.cons (.var 4) .nil)) (lv a b c (.dat (sd3 a b c)) .unk x6 x7 x8 x9 x10 x11 x12 x14 x15 x16)).noX.noD.bind tameR = _
      rw [call1r (x := sd3 a b c) rfl (lbox_ok 9 (box_s 9 ha hb hc (.inl rfl)))]
      rfl
    · show evalE (tx.pgm 12) (.call 25 true [] (.cons (.var 4) .nil)) (lv a b c (.dat (t3 a b c)) .unk x6 x7 x8 x9 x10 x11 x12 x14 x15 x16) = _
      exact call1r (x := t3 a b c) rfl (lbox_ok 9 (box_s 9 ha hb hc (.inr rfl)))
  rw [e]
  exact asg_to (i := 5) E (show 5 < 17 by decide)
theorem fld_s {Γ : Pgm} (F : Γ.fld 6 = [Str.ofString "sides"]) {ρ : Vars} {l : List Int} (h : ρ[5]? = some (.dat (bx l))) : evalE Γ (.fld (.var 5) (Str.ofString "sides")) ρ = .ret (.tup (tI l)) :=
  fld_ev F (ds := [.tup (tI l)]) (by rw [E_var, ev_var, getV, h]) rfl
theorem ne_self {Γ : Pgm} {ρ : Vars} {e1 e2 : EE} {d : D} (h1 : evalE Γ e1 ρ = .ret d) (h2 : evalE Γ e2 ρ = .ret d) (hc : D.cmp d = true) : evalE Γ (.op .ne e1 e2) ρ = .ret (.bl false) := op_ev (o := .ne) h1 h2 (o2_ne_self hc)
theorem lw3_run {x4 : Sv} (x6 x7 x8 x9 x10 x11 x12 x14 x15 x16 : Sv) : evalS (tx.pgm 12) (lw 3) none (lv a b c x4 (.dat (bx [a, b, c])) x6 x7 x8 x9 x10 x11 x12 x14 x15 x16) = .ret (.nx (lv a b c x4 (.dat (bx [a, b, c])) x6 x7 x8 x9 x10 x11 x12 x14 x15 x16)) := by
  have e : lw 3 = .ite (.or (.not (.isC (.var 5) 6)) (.or (.op .ne (.fld (.var 5) (Str.ofString "sides")) (.bi .tuple (.cons (.var 2) .nil))) (.not (.call 19 true [] (.cons (.fld (.var 5) (Str.ofString "sides")) .nil))))) (.ret (.lit (.bl false))) .nop := rfl
  rw [e]
  have F := fld_s (Γ := tx.pgm 12) rfl (ρ := lv a b c x4 (.dat (bx [a, b, c])) x6 x7 x8 x9 x10 x11 x12 x14 x15 x16) (l := [a, b, c]) rfl
  exact unless_goes (or_ev (x := false) (y := false) rfl (or_ev (x := false) (y := false) (ne_self F (tupl_ev (l := tI [a, b, c]) rfl) (cmp_tup [a, b, c])) (not_ev (b := true) (call1r F (tup_sides 10 [a, b, c] (by simp))))))
theorem lw4_run {x4 : Sv} (h : G4 a b c x4) (x5 x6 x7 x8 x9 x10 x11 x12 x14 x15 x16 : Sv) : ∃ y4, evalS (tx.pgm 12) (lw 4) none (lv a b c x4 x5 x6 x7 x8 x9 x10 x11 x12 x14 x15 x16) = .ret (.nx (lv a b c y4 x5 x6 x7 x8 x9 x10 x11 x12 x14 x15 x16)) := by
  have e : lw 4 = .ite (.lend 4 (.isi (.var 4) .list)) (.setO 4 (.lit (.int 0)) (.lit (.int 0))) .nop := rfl
  rw [e]
  rcases h with rfl | rfl
  · exact ⟨_, (ite_t rfl).trans rfl⟩
  · exact ⟨_, (ite_f rfl).trans rfl⟩
theorem lw6_run (ha : Sd a) (hb : Sd b) (hc : Sd c) {x4 : Sv} (x9 x10 x11 x12 x14 x15 x16 : Sv) : evalS (tx.pgm 12) (lw 6) none (lv a b c x4 (.dat (bx [a, b, c])) (.dat (.int a)) (.dat (.int b)) (.dat (.int c)) x9 x10 x11 x12 x14 x15 x16) = .ret (.nx (lv a b c x4 (.dat (bx [a, b, c])) (.dat (.int a)) (.dat (.int b)) (.dat (.int c)) x9 x10 x11 x12 x14 x15 x16)) := by
  have e : lw 6 = .ite (.or (.op .ne (.fld (.var 5) (Str.ofString "sides")) (.tup (.cons (.var 6) (.cons (.var 7) (.cons (.var 8) .nil))))) (.op .ne (.prp 6 36 (.var 5)) (.op .mul (.lit (.int 2)) (.op .add (.op .add (.op .mul (.var 6) (.var 7)) (.op .mul (.var 7) (.var 8))) (.op .mul (.var 8) (.var 6)))))) (.ret (.lit (.bl false))) .nop := rfl
  rw [e]
  let ρ := lv a b c x4 (.dat (bx [a, b, c])) (.dat (.int a)) (.dat (.int b)) (.dat (.int c)) x9 x10 x11 x12 x14 x15 x16
  have F := fld_s (Γ := tx.pgm 12) rfl (ρ := ρ) (l := [a, b, c]) rfl
  have l : ∀ {x y : Int}, Sd x → Sd y → 0 ≤ x * y ∧ x * y ≤ 3600 := fun {x y} hx hy => ⟨Int.mul_nonneg (by have := hx.1; omega) (by have := hy.1; omega), by
    have := Int.mul_le_mul hx.2 hy.2 (by have := hy.1; omega) (by decide); omega⟩
  have l1 := l ha hb
  have l2 := l hb hc
  have l3 := l hc ha
  have M1 := op_ev (Γ := tx.pgm 12) (ρ := ρ) (o := .mul) (a := .var 6) (b := .var 7) rfl rfl (mul_sm (a := a) (b := b) (by have := ha; omega) (by have := hb; omega))
  have M2 := op_ev (Γ := tx.pgm 12) (ρ := ρ) (o := .mul) (a := .var 7) (b := .var 8) rfl rfl (mul_sm (a := b) (b := c) (by have := hb; omega) (by have := hc; omega))
  have M3 := op_ev (Γ := tx.pgm 12) (ρ := ρ) (o := .mul) (a := .var 8) (b := .var 6) rfl rfl (mul_sm (a := c) (b := a) (by have := hc; omega) (by have := ha; omega))
  have M4 := mul_sm (a := 2) (b := a * b + b * c + c * a) (by decide) (by omega)
  have R := op_ev (Γ := tx.pgm 12) (ρ := ρ) (o := .mul) (a := .lit (.int 2)) rfl (op_ev (o := .add) (op_ev (o := .add) M1 M2 rfl) M3 rfl) M4
  exact unless_goes (or_ev (x := false) (y := false) (ne_self F rfl (cmp_tup [a, b, c])) (ne_self (prp_ev (l := [a, b, c]) rfl (skin_run 11 ha hb hc)) R rfl))
end
end K02
set_option Elab.async false
set_option maxRecDepth 100000
set_option maxHeartbeats 4000000
set_option linter.all false
namespace K02
open PySem Ez Tr
section
variable {a b c : Int}
noncomputable abbrev lw8B : SS := bodyF (lw 8)
abbrev E9 : EE := .bi .tuple (.cons (.lc .rng1 (.cons (.lit (.int 3)) .nil) (.name 3) .yes (.tup (.cons (.op .mul (.op .ix (.var 11) (.var 3)) (.op .ix (.var 2) (.var 3))) (.cons (.lit (.int 1)) .nil))) [3]) .nil)
abbrev bD (k : Nat) : D := .tup [.int (bit k 0), .int (bit k 1), .int (bit k 2)]
theorem one_ev {Γ : Pgm} {ρ : Vars} {e1 e2 : EE} {x y : Int} (h1 : evalE Γ e1 ρ = .ret (.int x)) (h2 : evalE Γ e2 ρ = .ret (.int y)) (M : o2_mul (.int x) (.int y) = .ret (.int (x * y))) : evalE Γ (.tup (.cons (.op .mul e1 e2) (.cons (.lit (.int 1)) .nil))) ρ = .ret (one (.int (y * x))) := by
  rw [E_tup, ev_tup, E_cons, ev_cons, op_ev (o := .mul) h1 h2 M, Int.mul_comm x y]
  rfl
theorem E9_run (ha : Sd a) (hb : Sd b) (hc : Sd c) {k : Nat} (hk : k < 8) {x4 x5 x6 x7 x8 x9 x10 x12 x14 x15 x16 : Sv} : evalE (tx.pgm 12) E9 (lv a b c x4 x5 x6 x7 x8 x9 x10 (.dat (bD k)) x12 x14 x15 x16) = .ret (pD a b c k) := by
  refine tupl_ev (l := [one (.int (a * bit k 0)), one (.int (b * bit k 1)), one (.int (c * bit k 2))]) ?_
  refine lck_ev (d := .tup [.int 3]) (ks := [0, 1, 2]) (f := fun j => .int (j : Int)) (h := fun j => if j = 0 then one (.int (a * bit k 0)) else if j = 1 then one (.int (b * bit k 1)) else one (.int (c * bit k 2))) rfl rfl (by decide) (show 3 < 17 by decide) fun j mj => ?_
  simp only [List.mem_cons, List.not_mem_nil, or_false] at mj
  rcases mj with rfl | rfl | rfl
  · exact one_ev rfl rfl (mul_bit ha hk 0).2
  · exact one_ev rfl rfl (mul_bit hb hk 1).2
  · exact one_ev rfl rfl (mul_bit hc hk 2).2
theorem lw8_one (ha : Sd a) (hb : Sd b) (hc : Sd c) {k : Nat} (hk : k < 8) {l : List D} (hl : l.length ≤ 100) (x4 x5 x6 x7 x8 x11 x12 x14 x15 x16 : Sv) : evalS (tx.pgm 12) lw8B none (lv a b c x4 x5 x6 x7 x8 (.own l) (.dat (.int (k : Int))) x11 x12 x14 x15 x16) = .ret (.nx (lv a b c x4 x5 x6 x7 x8 (.own (l ++ [pD a b c k])) (.dat (.int (k : Int))) (.dat (bD k)) x12 x14 x15 x16)) := by
  have Sh : lw8B = .seq (.asg (.name 11) (.call 23 true [] (.cons (.var 10) .nil))) (.app 9 E9) := rfl
  have A : evalS (tx.pgm 12) (.asg (.name 11) (.call 23 true [] (.cons (.var 10) .nil))) none (lv a b c x4 x5 x6 x7 x8 (.own l) (.dat (.int (k : Int))) x11 x12 x14 x15 x16) = .ret (.nx (lv a b c x4 x5 x6 x7 x8 (.own l) (.dat (.int (k : Int))) (.dat (bD k)) x12 x14 x15 x16)) :=
    asg_to (i := 11) (call1r (x := .int (k : Int)) rfl (lbits_run 11 hk)) (show 11 < 17 by decide)
  rw [Sh, seq_nx A, S_app, es_app]
  show (at_ (evalE (tx.pgm 12) E9 _) _).bind (fun d => if l.length ≤ 10000 then (ret (.nx ((lv a b c x4 x5 x6 x7 x8 (.own l) (.dat (.int (k : Int))) (.dat (bD k)) x12 x14 x15 x16).set 9 (.own (l ++ [d])))) : RS) else bad) = _
  rw [E9_run ha hb hc hk]
  show (if l.length ≤ 10000 then _ else _) = _
  rw [if_pos (by omega)]
  rfl
theorem lw8_for (ha : Sd a) (hb : Sd b) (hc : Sd c) (x4 x5 x6 x7 x8 x12 x14 x15 x16 : Sv) : ∀ (ks : List Nat) (l : List D) (x10 x11 : Sv), (∀ k ∈ ks, k < 8) → l.length + ks.length ≤ 50 → ∃ y10 y11, forGo (fun x ρ => match evalG false (.name 10) x ρ with | some ρ' => evalS (tx.pgm 12) lw8B none ρ' | none => bad) (ks.map fun (k : Nat) => D.int (k : Int)) (lv a b c x4 x5 x6 x7 x8 (.own l) x10 x11 x12 x14 x15 x16) = .ret (.nx (lv a b c x4 x5 x6 x7 x8 (.own (l ++ ks.map (pD a b c))) y10 y11 x12 x14 x15 x16))
  | [], l, x10, x11, _, _ => ⟨x10, x11, by rw [List.map_nil, List.map_nil, List.append_nil]; rfl⟩
  | k :: ks, l, x10, x11, h, hl => by
    have hl' : l.length + (ks.length + 1) ≤ 50 := hl
    obtain ⟨y10, y11, ih⟩ := lw8_for ha hb hc x4 x5 x6 x7 x8 x12 x14 x15 x16 ks (l ++ [pD a b c k]) (.dat (.int (k : Int))) (.dat (bD k)) (fun j m => h j (List.mem_cons_of_mem _ m)) (by rw [List.length_append]; show l.length + 1 + ks.length ≤ 50; omega)
    refine ⟨y10, y11, ?_⟩
    rw [List.map_cons, forGo]
    show ((evalS (tx.pgm 12) lw8B none (lv a b c x4 x5 x6 x7 x8 (.own l) (.dat (.int (k : Int))) x11 x12 x14 x15 x16)).bind _) = _
    rw [lw8_one ha hb hc (h k (by simp)) (by omega)]
    refine Eq.trans ih ?_
    rw [List.append_assoc]; rfl
theorem lw8_run (ha : Sd a) (hb : Sd b) (hc : Sd c) (x4 x5 x6 x7 x8 x12 x14 x15 x16 : Sv) : ∃ y10 y11, evalS (tx.pgm 12) (lw 8) none (lv a b c x4 x5 x6 x7 x8 (.own []) .unk .unk x12 x14 x15 x16) = .ret (.nx (lv a b c x4 x5 x6 x7 x8 (.own (ks8.map (pD a b c))) y10 y11 x12 x14 x15 x16)) := by
  obtain ⟨y10, y11, h⟩ := lw8_for ha hb hc x4 x5 x6 x7 x8 x12 x14 x15 x16 ks8 [] .unk .unk (fun k m => mem8 m) (by decide)
  refine ⟨y10, y11, Eq.trans ?_ h⟩
  have e : lw 8 = .for .rng1 (.cons (.lit (.int 8)) .nil) (.name 10) lw8B := rfl
  rw [e, for_rng (by decide)]
  rfl
theorem cmp_pl : D.cmp (.tup (ks8.map (pD a b c))) = true := rfl
theorem lw9_run (ha : Sd a) (hb : Sd b) (hc : Sd c) (x4 x6 x7 x8 x10 x11 x12 x14 x15 x16 : Sv) : evalS (tx.pgm 12) (lw 9) none (lv a b c x4 (.dat (bx [a, b, c])) x6 x7 x8 (.own (ks8.map (pD a b c))) x10 x11 x12 x14 x15 x16) = .ret (.nx (lv a b c x4 (.dat (bx [a, b, c])) x6 x7 x8 (.own (ks8.map (pD a b c))) x10 x11 x12 x14 x15 x16)) := by
  have e : lw 9 = .ite (.or (.op .ne (.prp 6 37 (.var 5)) (.tupO 9)) (.not (.call 19 true [] (.cons (.prp 6 37 (.var 5)) .nil)))) (.ret (.lit (.bl false))) .nop := rfl
  rw [e]
  have P : evalE (tx.pgm 12) (.prp 6 37 (.var 5)) (lv a b c x4 (.dat (bx [a, b, c])) x6 x7 x8 (.own (ks8.map (pD a b c))) x10 x11 x12 x14 x15 x16) = .ret (.tup (ks8.map (pD a b c))) := prp_ev (l := [a, b, c]) rfl (cps_run 9 ha hb hc)
  have T : evalE (tx.pgm 12) (.tupO 9) (lv a b c x4 (.dat (bx [a, b, c])) x6 x7 x8 (.own (ks8.map (pD a b c))) x10 x11 x12 x14 x15 x16) = .ret (.tup (ks8.map (pD a b c))) := rfl
  exact unless_goes (or_ev (x := false) (y := false) (ne_self P T cmp_pl) (not_ev (b := true) (call1r P (tup_places (a := a) (b := b) (c := c) 8))))
theorem lw10_goes (ha : Sd a) (hb : Sd b) (hc : Sd c) (x4 x5 x6 x7 x8 x9 x10 x11 x14 x15 x16 : Sv) : Ez.Goes (tx.pgm 12) (lw 10) (fun ρ => ∃ x y z, (Sd x ∧ Sd y ∧ Sd z) ∧ ρ = lv a b c x4 x5 x6 x7 x8 x9 x10 x11 (.dat (sd3 x y z)) x14 x15 x16) (lv a b c x4 x5 x6 x7 x8 x9 x10 x11 .unk x14 x15 x16) := by
  have e : lw 10 = .asg (.name 12) (.lc .seq (.var 2) (.name 13) .yes (.ifx (.op .eq (.take (.cons (.var 1) (.cons (.lit (.int 2)) .nil))) (.lit (.int 0))) (.op .add (.lit (.int 1)) (.take (.cons (.var 1) (.cons (.lit (.int 60)) .nil)))) (.var 13)) [13]) := rfl
  rw [e]
  let ρ := lv a b c x4 x5 x6 x7 x8 x9 x10 x11 .unk x14 x15 x16
  have L : All True (fun d => ∃ ys, d = .lst ys ∧ Each (fun _ d => ∃ u : Int, Sd u ∧ d = .int u) (tI [a, b, c]) ys) (fun _ => False) (evalE (tx.pgm 12) (.lc .seq (.var 2) (.name 13) .yes (.ifx (.op .eq (.take (.cons (.var 1) (.cons (.lit (.int 2)) .nil))) (.lit (.int 0))) (.op .add (.lit (.int 1)) (.take (.cons (.var 1) (.cons (.lit (.int 60)) .nil)))) (.var 13)) [13]) ρ) := by
    refine All.lc (d := sd3 a b c) rfl rfl (by simp) (show 13 < 17 by decide) fun d md => ?_
    have hd : ∃ u : Int, Sd u ∧ d = .int u := by
      simp only [tI, List.map_cons, List.map_nil, List.mem_cons, List.not_mem_nil, or_false] at md
      rcases md with rfl | rfl | rfl
      · exact ⟨a, ha, rfl⟩
      · exact ⟨b, hb, rfl⟩
      · exact ⟨c, hc, rfl⟩
    have g : (ρ.set 13 (.dat d))[1]? = some (.dat .hand) := rfl
    rw [E_ifx, ev_ifx]
    refine All.bnd0 (P := fun d => ∃ b, d = .bl b) (op_all (takeH_all g (by decide) (by decide)) (is_all (d := .int 0) rfl) ?_) ?_
    · rintro _ _ ⟨v, _, rfl⟩ rfl
      show All True _ _ (o2_eq (.int v) (.int 0))
      rw [o2_eq_int]
      exact ⟨_, rfl⟩
    · rintro _ ⟨v, rfl⟩
      cases v with
      | true =>
        refine op_all (is_all (d := .int 1) rfl) (takeH_all g (by decide) (by decide)) ?_
        rintro _ _ rfl ⟨u, hu, rfl⟩
        exact ⟨1 + u, ⟨by omega, by omega⟩, rfl⟩
      | false => exact hd
  refine All.mono ?_ (fun _ z => z) (asg_goes (i := 12) L (show 12 < 17 by decide))
  rintro _ ⟨_, rfl, _, ⟨ys, rfl, he⟩, rfl⟩
  obtain ⟨_, _, _, rfl, ⟨x, hx, rfl⟩, ⟨y, hy, rfl⟩, ⟨z, hz, rfl⟩⟩ := each3 he
  exact ⟨_, rfl, x, y, z, ⟨hx, hy, hz⟩, rfl⟩
theorem lw11_run {x y z : Int} (hx : Sd x) (hy : Sd y) (hz : Sd z) (x4 x6 x7 x8 x9 x10 x11 x14 x15 x16 : Sv) : evalS (tx.pgm 12) (lw 11) none (lv a b c x4 (.dat (bx [a, b, c])) x6 x7 x8 x9 x10 x11 (.dat (sd3 x y z)) x14 x15 x16) = .ret (.nx (lv a b c x4 (.dat (bx [a, b, c])) x6 x7 x8 x9 x10 x11 (.dat (sd3 x y z)) x14 x15 x16)) := by
  have e : lw 11 = .ite (.or (.op .ne (.eqO false 6 35 (.newO 6 34 true (.cons (.var 12) .nil)) (.var 5)) (.op .eq (.var 12) (.var 2))) (.op .ne (.eqO true 6 35 (.newO 6 34 true (.cons (.var 12) .nil)) (.var 5)) (.op .ne (.var 12) (.var 2)))) (.ret (.lit (.bl false))) .nop := rfl
  rw [e]
  have N : evalE (tx.pgm 12) (.newO 6 34 true (.cons (.var 12) .nil)) (lv a b c x4 (.dat (bx [a, b, c])) x6 x7 x8 x9 x10 x11 (.dat (sd3 x y z)) x14 x15 x16) = .ret (bx [x, y, z]) := newO_ev (xs := [sd3 x y z]) rfl (box_s 10 hx hy hz (.inl rfl))
  have Q1 := eqO_bx 11 false (l := [x, y, z]) (m := [a, b, c]) N (e2 := .var 5) rfl
  have Q2 := eqO_bx 11 true (l := [x, y, z]) (m := [a, b, c]) N (e2 := .var 5) rfl
  have C1 := op_ev (Γ := tx.pgm 12) (ρ := lv a b c x4 (.dat (bx [a, b, c])) x6 x7 x8 x9 x10 x11 (.dat (sd3 x y z)) x14 x15 x16) (o := .eq) (a := .var 12) (b := .var 2) rfl rfl (o2_eqL [x, y, z] [a, b, c])
  have C2 := op_ev (Γ := tx.pgm 12) (ρ := lv a b c x4 (.dat (bx [a, b, c])) x6 x7 x8 x9 x10 x11 (.dat (sd3 x y z)) x14 x15 x16) (o := .ne) (a := .var 12) (b := .var 2) rfl rfl (o2_neL [x, y, z] [a, b, c])
  generalize decide ([x, y, z] = [a, b, c]) = t at Q1 Q2 C1 C2
  have Q1' : _ = Tr.ret (D.bl t) := Q1.trans (by cases t <;> rfl)
  have Q2' : _ = Tr.ret (D.bl (!t)) := Q2.trans (by cases t <;> rfl)
  exact unless_goes (or_ev (x := false) (y := false) (ne_self Q1' C1 rfl) (ne_self Q2' C2 rfl))
end
end K02
set_option Elab.async false
set_option maxRecDepth 100000
set_option maxHeartbeats 4000000
set_option linter.all false
namespace K02
open PySem Ez Tr
theorem and_all {Γ : Pgm} {ρ : Vars} {e1 e2 : EE} (h1 : All True (fun d => d = .bl true) (fun _ => False) (evalE Γ e1 ρ)) (h2 : All True (fun d => d = .bl true) (fun _ => False) (evalE Γ e2 ρ)) : All True (fun d => d = .bl true) (fun _ => False) (evalE Γ (.and e1 e2) ρ) := by
  rw [E_and, ev_and]
  refine All.bnd0 h1 ?_
  rintro _ rfl
  exact h2
section
variable {a b c : Int}
theorem lw12_goes (ha : Sd a) (hb : Sd b) (hc : Sd c) (x4 x5 x6 x7 x8 x9 x10 x11 x12 x16 : Sv) : Ez.Goes (tx.pgm 12) (lw 12) (fun ρ => (ρ = lv a b c x4 x5 x6 x7 x8 x9 x10 x11 x12 (.dat (sd3 a b c)) (.dat .non) x16) ∨ ∃ rows k, Ref rows k ∧ ρ = lv a b c x4 x5 x6 x7 x8 x9 x10 x11 x12 (.dat rows) (.dat (.int k)) x16) (lv a b c x4 x5 x6 x7 x8 x9 x10 x11 x12 .unk .unk x16) := by
  have e : lw 12 = .asg (.tup (.cons (.name 14) (.cons (.name 15) .nil))) (.call 32 true [] (.cons (.var 1) (.cons (.var 2) .nil))) := rfl
  rw [e]
  refine asgT_goes (P := SpOk a b c) ?_ ?_
  · have q : evalE (tx.pgm 12) (.call 32 true [] (.cons (.var 1) (.cons (.var 2) .nil))) (lv a b c x4 x5 x6 x7 x8 x9 x10 x11 x12 .unk .unk x16) = tx.run 12 32 [.hand, sd3 a b c] := by
      rw [E_call, ev_call, E_cons, ev_cons, E_cons, ev_cons]; rfl
    rw [q]; exact spoilt_all ha hb hc
  · rintro _ (rfl | ⟨rows, k, rfl, hr⟩)
    · exact ⟨_, rfl, .inl rfl⟩
    · exact ⟨_, rfl, .inr ⟨rows, k, hr, rfl⟩⟩
theorem lw13_run {d r : D} (h : tx.run 12 25 [d] = .ret r) (x4 x5 x6 x7 x8 x9 x10 x11 x12 x15 : Sv) : evalS (tx.pgm 12) (lw 13) none (lv a b c x4 x5 x6 x7 x8 x9 x10 x11 x12 (.dat d) x15 .unk) = .ret (.nx (lv a b c x4 x5 x6 x7 x8 x9 x10 x11 x12 (.dat d) x15 (.dat r))) := by
  have e : lw 13 = .asg (.name 16) (.call 25 true [] (.cons (.var 14) .nil)) := rfl
  rw [e]
  exact asg_to (i := 16) (call1r (x := d) rfl h) (show 16 < 17 by decide)
abbrev lw14A : SS := .ite (.or (.not (.isC (.var 16) 6)) (.eqO true 6 35 (.var 16) (.var 5))) (.ret (.lit (.bl false))) .nop
abbrev lw14B : SS := .ite (.op .ne (.var 16) (.lst (.cons (.lit (.str (Str.ofString "BadBox"))) (.cons (.var 15) .nil)))) (.ret (.lit (.bl false))) .nop
theorem lw14_e : lw 14 = .ite (.isN (.var 15)) lw14A lw14B := rfl
theorem lw14_ok (x4 x6 x7 x8 x9 x10 x11 x12 x14 : Sv) : evalS (tx.pgm 12) (lw 14) none (lv a b c x4 (.dat (bx [a, b, c])) x6 x7 x8 x9 x10 x11 x12 x14 (.dat .non) (.dat (bx [a, b, c]))) = .ret (.nx (lv a b c x4 (.dat (bx [a, b, c])) x6 x7 x8 x9 x10 x11 x12 x14 (.dat .non) (.dat (bx [a, b, c])))) := by
  rw [lw14_e]
  refine (ite_t rfl).trans ?_
  have Q := eqO_bx 11 true (ρ := lv a b c x4 (.dat (bx [a, b, c])) x6 x7 x8 x9 x10 x11 x12 x14 (.dat .non) (.dat (bx [a, b, c]))) (l := [a, b, c]) (m := [a, b, c]) (e1 := .var 16) (e2 := .var 5) rfl rfl
  rw [decide_eq_true rfl] at Q
  exact unless_goes (or_ev (x := false) (y := false) rfl Q)
theorem cmp_bad (k : Int) : D.cmp (badD k) = true := by
  have h : D.cmp (.str (Str.ofString "BadBox")) = true := by decide +kernel
  have h1 : D.pur (.str (Str.ofString "BadBox")) = true := (Bool.and_eq_true_iff.mp h).1
  show ((D.pur (.str (Str.ofString "BadBox")) && (D.pur (.int k) && true)) && decide (D.depL [.str (Str.ofString "BadBox"), .int k] + 1 ≤ 64)) = true
  rw [h1]; rfl
theorem lw14_no (k : Int) (x4 x5 x6 x7 x8 x9 x10 x11 x12 x14 : Sv) : evalS (tx.pgm 12) (lw 14) none (lv a b c x4 x5 x6 x7 x8 x9 x10 x11 x12 x14 (.dat (.int k)) (.dat (badD k))) = .ret (.nx (lv a b c x4 x5 x6 x7 x8 x9 x10 x11 x12 x14 (.dat (.int k)) (.dat (badD k)))) := by
  rw [lw14_e]
  refine (ite_f rfl).trans ?_
  exact unless_goes (ne_self (d := badD k) rfl rfl (cmp_bad k))
theorem lw15_all (x4 x6 x7 x8 x9 x10 x11 x12 x14 x15 x16 : Sv) : All True (Rt fun d => d = .bl true) (fun _ => False) (evalS (tx.pgm 12) (rests b_law 15) none (lv a b c x4 (.dat (bx [a, b, c])) x6 x7 x8 x9 x10 x11 x12 x14 x15 x16)) := by
  have e : rests b_law 15 = .ret (.and (.call 30 true [] (.cons (.var 1) .nil)) (.and (.call 31 true [] (.cons (.var 1) .nil)) (.op .eq (.fld (.var 5) (Str.ofString "sides")) (.bi .tuple (.cons (.var 2) .nil))))) := rfl
  rw [e]
  refine ret_all (and_all ?_ (and_all ?_ ?_))
  · rw [call1_ev (x := .hand) rfl]; exact faces_all
  · rw [call1_ev (x := .hand) rfl]; exact edges_all
  · have F := fld_s (Γ := tx.pgm 12) rfl (ρ := lv a b c x4 (.dat (bx [a, b, c])) x6 x7 x8 x9 x10 x11 x12 x14 x15 x16) (l := [a, b, c]) rfl
    rw [op_ev (o := .eq) F (tupl_ev (l := tI [a, b, c]) rfl) (o2_eq_self (cmp_tup [a, b, c]))]
    exact rfl
end
theorem law_goes : All True (Rt fun d => d = .bl true) (fun _ => False) (evalS (tx.pgm 12) b_law none [.unk, .dat .hand, .unk, .unk, .unk, .unk, .unk, .unk, .unk, .unk, .unk, .unk, .unk, .unk, .unk, .unk, .unk]) := by
  have Sh : b_law = .seq (lw 0) (.seq (lw 1) (.seq (lw 2) (.seq (lw 3) (.seq (lw 4) (.seq (lw 5) (.seq (lw 6) (.seq (lw 7) (.seq (lw 8) (.seq (lw 9) (.seq (lw 10) (.seq (lw 11) (.seq (lw 12) (.seq (lw 13) (.seq (lw 14) (rests b_law 15))))))))))))))) := rfl
  have e0 : lw 0 = .asg (.name 2) (.lc .rng1 (.cons (.lit (.int 3)) .nil) (.name 3) .yes (.op .add (.lit (.int 1)) (.take (.cons (.var 1) (.cons (.lit (.int 60)) .nil)))) [3]) := rfl
  have e5 : lw 5 = .asg (.tup (.cons (.name 6) (.cons (.name 7) (.cons (.name 8) .nil)))) (.var 2) := rfl
  have e7 : lw 7 = .asgO 9 (.lst .nil) := rfl
  rw [Sh, e0]
  refine goes (asg_goes (i := 2) (sides_all _ rfl (show 3 < 17 by decide)) (show 2 < 17 by decide)) ?_
  rintro _ ⟨_, ⟨a, b, c, ⟨ha, hb, hc⟩, rfl⟩, rfl⟩
  show All True _ _ (evalS (tx.pgm 12) _ none (lv a b c .unk .unk .unk .unk .unk .unk .unk .unk .unk .unk .unk .unk))
  refine goes (lw1_goes .unk .unk .unk .unk .unk .unk .unk .unk .unk .unk .unk) ?_
  rintro _ ⟨x4, h4, rfl⟩
  rw [seq_nx (lw2_run ha hb hc h4 .unk .unk .unk .unk .unk .unk .unk .unk .unk .unk), seq_nx (lw3_run .unk .unk .unk .unk .unk .unk .unk .unk .unk .unk)]
  obtain ⟨y4, E4⟩ := lw4_run h4 (.dat (bx [a, b, c])) .unk .unk .unk .unk .unk .unk .unk .unk .unk .unk
  rw [seq_nx E4]
  have E5 : evalS (tx.pgm 12) (lw 5) none (lv a b c y4 (.dat (bx [a, b, c])) .unk .unk .unk .unk .unk .unk .unk .unk .unk .unk) = .ret (.nx (lv a b c y4 (.dat (bx [a, b, c])) (.dat (.int a)) (.dat (.int b)) (.dat (.int c)) .unk .unk .unk .unk .unk .unk .unk)) := by
    rw [e5]; rfl
  rw [seq_nx E5, seq_nx (lw6_run ha hb hc .unk .unk .unk .unk .unk .unk .unk)]
  have E7 : evalS (tx.pgm 12) (lw 7) none (lv a b c y4 (.dat (bx [a, b, c])) (.dat (.int a)) (.dat (.int b)) (.dat (.int c)) .unk .unk .unk .unk .unk .unk .unk) = .ret (.nx (lv a b c y4 (.dat (bx [a, b, c])) (.dat (.int a)) (.dat (.int b)) (.dat (.int c)) (.own []) .unk .unk .unk .unk .unk .unk)) := by
    rw [e7]; rfl
  rw [seq_nx E7]
  obtain ⟨y10, y11, E8⟩ := lw8_run ha hb hc y4 (.dat (bx [a, b, c])) (.dat (.int a)) (.dat (.int b)) (.dat (.int c)) .unk .unk .unk .unk
  rw [seq_nx E8, seq_nx (lw9_run ha hb hc y4 (.dat (.int a)) (.dat (.int b)) (.dat (.int c)) y10 y11 .unk .unk .unk .unk)]
  refine goes (lw10_goes ha hb hc y4 (.dat (bx [a, b, c])) (.dat (.int a)) (.dat (.int b)) (.dat (.int c)) _ y10 y11 .unk .unk .unk) ?_
  rintro _ ⟨x, y, z, ⟨hx, hy, hz⟩, rfl⟩
  rw [seq_nx (lw11_run hx hy hz y4 (.dat (.int a)) (.dat (.int b)) (.dat (.int c)) _ y10 y11 .unk .unk .unk)]
  refine goes (lw12_goes ha hb hc y4 (.dat (bx [a, b, c])) (.dat (.int a)) (.dat (.int b)) (.dat (.int c)) _ y10 y11 _ .unk) ?_
  rintro _ (rfl | ⟨rows, k, hr, rfl⟩)
  · rw [seq_nx (lw13_run (lbox_ok 9 (box_s 9 ha hb hc (.inl rfl))) y4 _ _ _ _ _ y10 y11 _ _), seq_nx (lw14_ok y4 _ _ _ _ y10 y11 _ _)]
    exact lw15_all y4 _ _ _ _ y10 y11 _ _ _ _
  · rw [seq_nx (lw13_run (lbox_no 9 (hr 9)) y4 _ _ _ _ _ y10 y11 _ _), seq_nx (lw14_no k y4 _ _ _ _ _ y10 y11 _ _)]
    exact lw15_all y4 _ _ _ _ y10 y11 _ _ _ _
theorem math : All True (fun fl => match fl with | .rt d _ => d = .bl true | _ => False) (fun _ => False) (evalS (tx.pgm 12) b_law none (.unk :: .dat .hand :: List.replicate (17 - 2) .unk)) :=
  All.mono (fun _ ⟨_, _, e, h⟩ => e ▸ h) (fun _ z => z) law_goes
end K02
set_option Elab.async false
set_option linter.all false
set_option maxRecDepth 100000
set_option maxHeartbeats 3999999
namespace K02
open L2 PySem PyProof.Rows PySem.Spec Ez
theorem zb_is_sequence {K : PySem.W.Frag} {f : Addr} {fd : FuncData} (F : Fun K "is_sequence" "is_sequence" s_is_sequence f fd) : L2.Binds K fd ["thing", "low", "high"] [] := F.binds fun _ _ _ _ _ _ us hl => match us, hl with | [_, _, _], _ => rfl
theorem zb_check_face {K : PySem.W.Frag} {f : Addr} {fd : FuncData} (F : Fun K "check_face" "check_face" s_check_face f fd) : L2.Binds K fd ["face"] [] := F.binds fun _ _ _ _ _ _ us hl => match us, hl with | [_], _ => rfl
theorem zb_check_corner {K : PySem.W.Frag} {f : Addr} {fd : FuncData} (F : Fun K "check_corner" "check_corner" s_check_corner f fd) : L2.Binds K fd ["corner"] [] := F.binds fun _ _ _ _ _ _ us hl => match us, hl with | [_], _ => rfl
theorem zb_corner_bit {K : PySem.W.Frag} {f : Addr} {fd : FuncData} (F : Fun K "corner_bit" "corner_bit" s_corner_bit f fd) : L2.Binds K fd ["corner", "axis"] [] := F.binds fun _ _ _ _ _ _ us hl => match us, hl with | [_, _], _ => rfl
theorem zb_corner_numbers {K : PySem.W.Frag} {f : Addr} {fd : FuncData} (F : Fun K "corner_numbers" "corner_numbers" s_corner_numbers f fd) : L2.Binds K fd ["box", "corner"] [] := F.binds fun _ _ _ _ _ _ us hl => match us, hl with | [_, _], _ => rfl
theorem zb_face_axes {K : PySem.W.Frag} {f : Addr} {fd : FuncData} (F : Fun K "face_axes" "face_axes" s_face_axes f fd) : L2.Binds K fd ["face"] [] := F.binds fun _ _ _ _ _ _ us hl => match us, hl with | [_], _ => rfl
theorem zb_are_beside {K : PySem.W.Frag} {f : Addr} {fd : FuncData} (F : Fun K "are_beside" "are_beside" s_are_beside f fd) : L2.Binds K fd ["face", "other"] [] := F.binds fun _ _ _ _ _ _ us hl => match us, hl with | [_, _], _ => rfl
theorem zb_faces_beside {K : PySem.W.Frag} {f : Addr} {fd : FuncData} (F : Fun K "faces_beside" "faces_beside" s_faces_beside f fd) : L2.Binds K fd ["face"] [] := F.binds fun _ _ _ _ _ _ us hl => match us, hl with | [_], _ => rfl
theorem zb_faces_of_corner {K : PySem.W.Frag} {f : Addr} {fd : FuncData} (F : Fun K "faces_of_corner" "faces_of_corner" s_faces_of_corner f fd) : L2.Binds K fd ["corner"] [] := F.binds fun _ _ _ _ _ _ us hl => match us, hl with | [_], _ => rfl
theorem zb_all_edges {K : PySem.W.Frag} {f : Addr} {fd : FuncData} (F : Fun K "all_edges" "all_edges" s_all_edges f fd) : L2.Binds K fd [] [] := F.binds fun _ _ _ _ _ _ us hl => match us, hl with | [], _ => rfl
theorem zb_check_edge {K : PySem.W.Frag} {f : Addr} {fd : FuncData} (F : Fun K "check_edge" "check_edge" s_check_edge f fd) : L2.Binds K fd ["edge"] [] := F.binds fun _ _ _ _ _ _ us hl => match us, hl with | [_], _ => rfl
theorem zb_faces_of_edge {K : PySem.W.Frag} {f : Addr} {fd : FuncData} (F : Fun K "faces_of_edge" "faces_of_edge" s_faces_of_edge f fd) : L2.Binds K fd ["edge"] [] := F.binds fun _ _ _ _ _ _ us hl => match us, hl with | [_], _ => rfl
theorem zb_edge_between {K : PySem.W.Frag} {f : Addr} {fd : FuncData} (F : Fun K "edge_between" "edge_between" s_edge_between f fd) : L2.Binds K fd ["face", "beside"] [] := F.binds fun _ _ _ _ _ _ us hl => match us, hl with | [_, _], _ => rfl
theorem zb_edge_ends {K : PySem.W.Frag} {f : Addr} {fd : FuncData} (F : Fun K "edge_ends" "edge_ends" s_edge_ends f fd) : L2.Binds K fd ["face", "beside"] [] := F.binds fun _ _ _ _ _ _ us hl => match us, hl with | [_, _], _ => rfl
theorem zb__law_hand {K : PySem.W.Frag} {f : Addr} {fd : FuncData} (F : Fun K "_law_hand" "_law_hand" s__law_hand f fd) : L2.Binds K fd ["_law_script"] [] := F.binds fun _ _ _ _ _ _ us hl => match us, hl with | [_], _ => rfl
theorem zb__law_mixed {K : PySem.W.Frag} {f : Addr} {fd : FuncData} (F : Fun K "_law_mixed" "_law_mixed" s__law_mixed f fd) : L2.Binds K fd ["_law_number", "_law_turn"] [] := F.binds fun _ _ _ _ _ _ us hl => match us, hl with | [_, _], _ => rfl
theorem zb__law_take {K : PySem.W.Frag} {f : Addr} {fd : FuncData} (F : Fun K "_law_take" "_law_take" s__law_take f fd) : L2.Binds K fd ["_law_hand_here", "_law_many"] [] := F.binds fun _ _ _ _ _ _ us hl => match us, hl with | [_, _], _ => rfl
theorem zb__law_axes {K : PySem.W.Frag} {f : Addr} {fd : FuncData} (F : Fun K "_law_axes" "_law_axes" s__law_axes f fd) : L2.Binds K fd ["_law_face"] [] := F.binds fun _ _ _ _ _ _ us hl => match us, hl with | [_], _ => rfl
theorem zb__law_tuples {K : PySem.W.Frag} {f : Addr} {fd : FuncData} (F : Fun K "_law_tuples" "_law_tuples" s__law_tuples f fd) : L2.Binds K fd ["_law_thing"] [] := F.binds fun _ _ _ _ _ _ us hl => match us, hl with | [_], _ => rfl
theorem zb__law_odd {K : PySem.W.Frag} {f : Addr} {fd : FuncData} (F : Fun K "_law_odd" "_law_odd" s__law_odd f fd) : L2.Binds K fd ["_law_hand_here", "_law_high"] [] := F.binds fun _ _ _ _ _ _ us hl => match us, hl with | [_, _], _ => rfl
theorem zb__law_rid {K : PySem.W.Frag} {f : Addr} {fd : FuncData} (F : Fun K "_law_rid" "_law_rid" s__law_rid f fd) : L2.Binds K fd ["_law_hand_here"] [] := F.binds fun _ _ _ _ _ _ us hl => match us, hl with | [_], _ => rfl
theorem zb__law_whole {K : PySem.W.Frag} {f : Addr} {fd : FuncData} (F : Fun K "_law_whole" "_law_whole" s__law_whole f fd) : L2.Binds K fd ["_law_thing", "_law_low", "_law_high"] [] := F.binds fun _ _ _ _ _ _ us hl => match us, hl with | [_, _, _], _ => rfl
theorem zb__law_bits {K : PySem.W.Frag} {f : Addr} {fd : FuncData} (F : Fun K "_law_bits" "_law_bits" s__law_bits f fd) : L2.Binds K fd ["_law_corner"] [] := F.binds fun _ _ _ _ _ _ us hl => match us, hl with | [_], _ => rfl
theorem zb__law_shaped {K : PySem.W.Frag} {f : Addr} {fd : FuncData} (F : Fun K "_law_shaped" "_law_shaped" s__law_shaped f fd) : L2.Binds K fd ["_law_hand_here", "_law_items"] [] := F.binds fun _ _ _ _ _ _ us hl => match us, hl with | [_, _], _ => rfl
theorem zb__law_box {K : PySem.W.Frag} {f : Addr} {fd : FuncData} (F : Fun K "_law_box" "_law_box" s__law_box f fd) : L2.Binds K fd ["_law_sides"] [] := F.binds fun _ _ _ _ _ _ us hl => match us, hl with | [_], _ => rfl
theorem zb__law_asked {K : PySem.W.Frag} {f : Addr} {fd : FuncData} (F : Fun K "_law_asked" "_law_asked" s__law_asked f fd) : L2.Binds K fd ["_law_deed", "_law_thing"] [] := F.binds fun _ _ _ _ _ _ us hl => match us, hl with | [_, _], _ => rfl
theorem zb__law_between {K : PySem.W.Frag} {f : Addr} {fd : FuncData} (F : Fun K "_law_between" "_law_between" s__law_between f fd) : L2.Binds K fd ["_law_deed", "_law_one", "_law_other"] [] := F.binds fun _ _ _ _ _ _ us hl => match us, hl with | [_, _, _], _ => rfl
theorem zb__law_plain {K : PySem.W.Frag} {f : Addr} {fd : FuncData} (F : Fun K "_law_plain" "_law_plain" s__law_plain f fd) : L2.Binds K fd ["_law_thing"] [] := F.binds fun _ _ _ _ _ _ us hl => match us, hl with | [_], _ => rfl
theorem zb__law_like {K : PySem.W.Frag} {f : Addr} {fd : FuncData} (F : Fun K "_law_like" "_law_like" s__law_like f fd) : L2.Binds K fd ["_law_one", "_law_other"] [] := F.binds fun _ _ _ _ _ _ us hl => match us, hl with | [_, _], _ => rfl
theorem zb__law_faces {K : PySem.W.Frag} {f : Addr} {fd : FuncData} (F : Fun K "_law_faces" "_law_faces" s__law_faces f fd) : L2.Binds K fd ["_law_hand_here"] [] := F.binds fun _ _ _ _ _ _ us hl => match us, hl with | [_], _ => rfl
theorem zb__law_edges {K : PySem.W.Frag} {f : Addr} {fd : FuncData} (F : Fun K "_law_edges" "_law_edges" s__law_edges f fd) : L2.Binds K fd ["_law_hand_here"] [] := F.binds fun _ _ _ _ _ _ us hl => match us, hl with | [_], _ => rfl
theorem zb__law_spoilt {K : PySem.W.Frag} {f : Addr} {fd : FuncData} (F : Fun K "_law_spoilt" "_law_spoilt" s__law_spoilt f fd) : L2.Binds K fd ["_law_hand_here", "_law_sides"] [] := F.binds fun _ _ _ _ _ _ us hl => match us, hl with | [_, _], _ => rfl
theorem zb_law {K : PySem.W.Frag} {f : Addr} {fd : FuncData} (F : Fun K "law" "law" s_law f fd) : L2.Binds K fd ["_law_script"] [] := F.binds fun _ _ _ _ _ _ us hl => match us, hl with | [_], _ => rfl
theorem zb_Box___init__ {K : PySem.W.Frag} {f : Addr} {fd : FuncData} (F : Fun K "__init__" "Box.__init__" s_Box___init__ f fd) : L2.Binds K fd ["self", "sides"] [] := F.binds fun _ _ _ _ _ _ us hl => match us, hl with | [_, _], _ => rfl
theorem zb_Box___eq__ {K : PySem.W.Frag} {f : Addr} {fd : FuncData} (F : Fun K "__eq__" "Box.__eq__" s_Box___eq__ f fd) : L2.Binds K fd ["self", "other"] [] := F.binds fun _ _ _ _ _ _ us hl => match us, hl with | [_, _], _ => rfl
theorem zb_Box_skin_area {K : PySem.W.Frag} {f : Addr} {fd : FuncData} (F : Fun K "skin_area" "Box.skin_area" s_Box_skin_area f fd) : L2.Binds K fd ["self"] [] := F.binds fun _ _ _ _ _ _ us hl => match us, hl with | [_], _ => rfl
theorem zb_Box_corner_places {K : PySem.W.Frag} {f : Addr} {fd : FuncData} (F : Fun K "corner_places" "Box.corner_places" s_Box_corner_places f fd) : L2.Binds K fd ["self"] [] := F.binds fun _ _ _ _ _ _ us hl => match us, hl with | [_], _ => rfl
theorem zb_BadBox {K : PySem.W.Frag} {f : Addr} {fd : FuncData} (F : Fun K "__init__" "BadBox.__init__" s_BadBox___init__ f fd) : L2.Binds K fd ["self", "index"] [] := F.binds fun _ _ _ _ _ _ us hl => match us, hl with | [_, _], _ => rfl
theorem zb_BadCorner {K : PySem.W.Frag} {f : Addr} {fd : FuncData} (F : Fun K "__init__" "BadCorner.__init__" s_BadCorner___init__ f fd) : L2.Binds K fd ["self", "corner"] [] := F.binds fun _ _ _ _ _ _ us hl => match us, hl with | [_, _], _ => rfl
theorem zb_BadEdge {K : PySem.W.Frag} {f : Addr} {fd : FuncData} (F : Fun K "__init__" "BadEdge.__init__" s_BadEdge___init__ f fd) : L2.Binds K fd ["self", "edge"] [] := F.binds fun _ _ _ _ _ _ us hl => match us, hl with | [_, _], _ => rfl
theorem zb_BadFace {K : PySem.W.Frag} {f : Addr} {fd : FuncData} (F : Fun K "__init__" "BadFace.__init__" s_BadFace___init__ f fd) : L2.Binds K fd ["self", "face"] [] := F.binds fun _ _ _ _ _ _ us hl => match us, hl with | [_, _], _ => rfl
theorem zb_NoEdge {K : PySem.W.Frag} {f : Addr} {fd : FuncData} (F : Fun K "__init__" "NoEdge.__init__" s_NoEdge___init__ f fd) : L2.Binds K fd ["self", "face", "beside"] [] := F.binds fun _ _ _ _ _ _ us hl => match us, hl with | [_, _, _], _ => rfl
theorem zb_is_whole_3 {K : PySem.W.Frag} {f : Addr} {fd : FuncData} (F : FunD K "is_whole" "is_whole" (defArgs s_is_whole) (defBody s_is_whole) (defScope s_is_whole) [.non, .non] [] f fd) : ∃ ds : List Value, Vals [] ds ∧ L2.Binds K fd ["thing", "low", "high"] ds :=
  F.binds1 3 2 (by simp) rfl fun _ _ _ _ _ _ _ us its h1 h2 => match us, its, h1, h2 with | [_, _, _], [_, _], _, _ => ⟨_, rfl, rfl⟩
theorem cls_elim {K : PySem.W.Frag} {h : Heap} {mg : Str → Option Value} {Goal : Prop} {ParcelError : Addr} {BadBox : Addr} {BadCorner : Addr} {BadFace : Addr} {BadEdge : Addr} {NoEdge : Addr} {Box : Addr} {BadBox_i : Addr} {nm_BadBox q_BadBox : Str} {N_BadBox : Addr} {bs_BadBox bm_BadBox : List Value} {sn_BadBox : List Str} {su_BadBox : List Value} {ab_BadBox : Bool} {co_BadBox : Option Bool} {dd_BadBox : Option Addr} {m0_BadBox m1_BadBox m2_BadBox m3_BadBox m5_BadBox : Option Value} {oc_BadBox kV_BadBox dc_BadBox pm_BadBox cd_BadBox ct_BadBox : Value} {od_BadBox an_BadBox : Option Addr} {sl_BadBox : Array (Option Value)} {BadCorner_i : Addr} {nm_BadCorner q_BadCorner : Str} {N_BadCorner : Addr} {bs_BadCorner bm_BadCorner : List Value} {sn_BadCorner : List Str} {su_BadCorner : List Value} {ab_BadCorner : Bool} {co_BadCorner : Option Bool} {dd_BadCorner : Option Addr} {m0_BadCorner m1_BadCorner m2_BadCorner m3_BadCorner m5_BadCorner : Option Value} {oc_BadCorner kV_BadCorner dc_BadCorner pm_BadCorner cd_BadCorner ct_BadCorner : Value} {od_BadCorner an_BadCorner : Option Addr} {sl_BadCorner : Array (Option Value)} {BadEdge_i : Addr} {nm_BadEdge q_BadEdge : Str} {N_BadEdge : Addr} {bs_BadEdge bm_BadEdge : List Value} {sn_BadEdge : List Str} {su_BadEdge : List Value} {ab_BadEdge : Bool} {co_BadEdge : Option Bool} {dd_BadEdge : Option Addr} {m0_BadEdge m1_BadEdge m2_BadEdge m3_BadEdge m5_BadEdge : Option Value} {oc_BadEdge kV_BadEdge dc_BadEdge pm_BadEdge cd_BadEdge ct_BadEdge : Value} {od_BadEdge an_BadEdge : Option Addr} {sl_BadEdge : Array (Option Value)} {BadFace_i : Addr} {nm_BadFace q_BadFace : Str} {N_BadFace : Addr} {bs_BadFace bm_BadFace : List Value} {sn_BadFace : List Str} {su_BadFace : List Value} {ab_BadFace : Bool} {co_BadFace : Option Bool} {dd_BadFace : Option Addr} {m0_BadFace m1_BadFace m2_BadFace m3_BadFace m5_BadFace : Option Value} {oc_BadFace kV_BadFace dc_BadFace pm_BadFace cd_BadFace ct_BadFace : Value} {od_BadFace an_BadFace : Option Addr} {sl_BadFace : Array (Option Value)} {NoEdge_i : Addr} {nm_NoEdge q_NoEdge : Str} {N_NoEdge : Addr} {bs_NoEdge bm_NoEdge : List Value} {sn_NoEdge : List Str} {su_NoEdge : List Value} {ab_NoEdge : Bool} {co_NoEdge : Option Bool} {dd_NoEdge : Option Addr} {m0_NoEdge m1_NoEdge m2_NoEdge m3_NoEdge m5_NoEdge : Option Value} {oc_NoEdge kV_NoEdge dc_NoEdge pm_NoEdge cd_NoEdge ct_NoEdge : Value} {od_NoEdge an_NoEdge : Option Addr} {sl_NoEdge : Array (Option Value)} {Box_i : Addr} {oc_Box kV_Box dc_Box pm_Box cd_Box ct_Box : Value} {od_Box an_Box : Option Addr} {sl_Box : Array (Option Value)} {Box_q : Addr} {ocq_Box kVq_Box dcq_Box pmq_Box cdq_Box ctq_Box : Value} {odq_Box anq_Box : Option Addr} {slq_Box : Array (Option Value)} {Box_skin_area_g Box_skin_area_p : Addr} {rs_Box_skin_area : List Value} {ocp_Box_skin_area kVp_Box_skin_area dcp_Box_skin_area pmp_Box_skin_area cdp_Box_skin_area ctp_Box_skin_area : Value} {odp_Box_skin_area anp_Box_skin_area : Option Addr} {slp_Box_skin_area : Array (Option Value)} {Box_corner_places_g Box_corner_places_p : Addr} {rs_Box_corner_places : List Value} {ocp_Box_corner_places kVp_Box_corner_places dcp_Box_corner_places pmp_Box_corner_places cdp_Box_corner_places ctp_Box_corner_places : Value} {odp_Box_corner_places anp_Box_corner_places : Option Addr} {slp_Box_corner_places : Array (Option Value)} (X : K.In h) (G : h.Ns mainGlobals mg)
  (a_ParcelError : PySem.W.nsIn K mainGlobals "ParcelError" = some (some (.ref ParcelError)))
  (a_BadBox : PySem.W.nsIn K mainGlobals "BadBox" = some (some (.ref BadBox)))
  (a_BadCorner : PySem.W.nsIn K mainGlobals "BadCorner" = some (some (.ref BadCorner)))
  (a_BadFace : PySem.W.nsIn K mainGlobals "BadFace" = some (some (.ref BadFace)))
  (a_BadEdge : PySem.W.nsIn K mainGlobals "BadEdge" = some (some (.ref BadEdge)))
  (a_NoEdge : PySem.W.nsIn K mainGlobals "NoEdge" = some (some (.ref NoEdge)))
  (a_Box : PySem.W.nsIn K mainGlobals "Box" = some (some (.ref Box)))
  (ex_ParcelError : PySem.W.subIn K (.ref ParcelError) (.type "BaseException") = some true)
  (ty_ParcelError : PySem.W.typeIn K (.ref ParcelError) = some (.type "type"))
  (is_ParcelError : PySem.W.isClsIn K ParcelError = true)
  (ex_BadBox : PySem.W.subIn K (.ref BadBox) (.type "BaseException") = some true)
  (ty_BadBox : PySem.W.typeIn K (.ref BadBox) = some (.type "type"))
  (is_BadBox : PySem.W.isClsIn K BadBox = true)
  (ex_BadCorner : PySem.W.subIn K (.ref BadCorner) (.type "BaseException") = some true)
  (ty_BadCorner : PySem.W.typeIn K (.ref BadCorner) = some (.type "type"))
  (is_BadCorner : PySem.W.isClsIn K BadCorner = true)
  (ex_BadFace : PySem.W.subIn K (.ref BadFace) (.type "BaseException") = some true)
  (ty_BadFace : PySem.W.typeIn K (.ref BadFace) = some (.type "type"))
  (is_BadFace : PySem.W.isClsIn K BadFace = true)
  (ex_BadEdge : PySem.W.subIn K (.ref BadEdge) (.type "BaseException") = some true)
  (ty_BadEdge : PySem.W.typeIn K (.ref BadEdge) = some (.type "type"))
  (is_BadEdge : PySem.W.isClsIn K BadEdge = true)
  (ex_NoEdge : PySem.W.subIn K (.ref NoEdge) (.type "BaseException") = some true)
  (ty_NoEdge : PySem.W.typeIn K (.ref NoEdge) = some (.type "type"))
  (is_NoEdge : PySem.W.isClsIn K NoEdge = true)
  (x_BadBox : K.lookup BadBox = some (excClassObj nm_BadBox q_BadBox BadBox N_BadBox bs_BadBox bm_BadBox true sn_BadBox su_BadBox ab_BadBox co_BadBox dd_BadBox m0_BadBox m1_BadBox m2_BadBox m3_BadBox m5_BadBox "ValueError.__new__"))
  (rv_BadBox : PySem.HandSPX.refsVE bm_BadBox = true)
  (sa_BadBox : PySem.W.findIn K (.ref BadBox) "__setattr__" = some (some (.builtin "object.__setattr__")))
  (kp_BadBox : PySem.W.keepIn K (.ref BadBox) = true)
  (ga_BadBox : PySem.W.findIn K (.ref BadBox) "__getattribute__" = some (some (.builtin "BaseException.__getattribute__")))
  (gg_BadBox : PySem.W.findIn K (.ref BadBox) "__getattr__" = some none)
  (hd_BadBox : PySem.W.hasDictIn K BadBox = true)
  (ia_BadBox : PySem.W.findIn K (.ref BadBox) "__init__" = some (some (.ref BadBox_i)))
  (it_BadBox : PySem.W.typeIn K (.ref BadBox_i) = some (.type "function"))
  (il_BadBox : K.lookup BadBox_i = some ⟨oc_BadBox, od_BadBox, .func (PySem.W.fnOf "__init__" "BadBox.__init__" (defArgs s_BadBox___init__) (defBody s_BadBox___init__) (defScope s_BadBox___init__) .none kV_BadBox dc_BadBox pm_BadBox an_BadBox cd_BadBox ct_BadBox), sl_BadBox⟩)
  (ic_BadBox : PySem.W.codeIn K cd_BadBox "BadBox.__init__" = true)
  (ik_BadBox : PySem.W.keepIn K (.ref BadBox_i) = true)
  (no_BadBox_index : PySem.W.findIn K (.ref BadBox) "index" = some none)
  (x_BadCorner : K.lookup BadCorner = some (excClassObj nm_BadCorner q_BadCorner BadCorner N_BadCorner bs_BadCorner bm_BadCorner true sn_BadCorner su_BadCorner ab_BadCorner co_BadCorner dd_BadCorner m0_BadCorner m1_BadCorner m2_BadCorner m3_BadCorner m5_BadCorner "ValueError.__new__"))
  (rv_BadCorner : PySem.HandSPX.refsVE bm_BadCorner = true)
  (sa_BadCorner : PySem.W.findIn K (.ref BadCorner) "__setattr__" = some (some (.builtin "object.__setattr__")))
  (kp_BadCorner : PySem.W.keepIn K (.ref BadCorner) = true)
  (ga_BadCorner : PySem.W.findIn K (.ref BadCorner) "__getattribute__" = some (some (.builtin "BaseException.__getattribute__")))
  (gg_BadCorner : PySem.W.findIn K (.ref BadCorner) "__getattr__" = some none)
  (hd_BadCorner : PySem.W.hasDictIn K BadCorner = true)
  (ia_BadCorner : PySem.W.findIn K (.ref BadCorner) "__init__" = some (some (.ref BadCorner_i)))
  (it_BadCorner : PySem.W.typeIn K (.ref BadCorner_i) = some (.type "function"))
  (il_BadCorner : K.lookup BadCorner_i = some ⟨oc_BadCorner, od_BadCorner, .func (PySem.W.fnOf "__init__" "BadCorner.__init__" (defArgs s_BadCorner___init__) (defBody s_BadCorner___init__) (defScope s_BadCorner___init__) .none kV_BadCorner dc_BadCorner pm_BadCorner an_BadCorner cd_BadCorner ct_BadCorner), sl_BadCorner⟩)
  (ic_BadCorner : PySem.W.codeIn K cd_BadCorner "BadCorner.__init__" = true)
  (ik_BadCorner : PySem.W.keepIn K (.ref BadCorner_i) = true)
  (no_BadCorner_corner : PySem.W.findIn K (.ref BadCorner) "corner" = some none)
  (x_BadEdge : K.lookup BadEdge = some (excClassObj nm_BadEdge q_BadEdge BadEdge N_BadEdge bs_BadEdge bm_BadEdge true sn_BadEdge su_BadEdge ab_BadEdge co_BadEdge dd_BadEdge m0_BadEdge m1_BadEdge m2_BadEdge m3_BadEdge m5_BadEdge "ValueError.__new__"))
  (rv_BadEdge : PySem.HandSPX.refsVE bm_BadEdge = true)
  (sa_BadEdge : PySem.W.findIn K (.ref BadEdge) "__setattr__" = some (some (.builtin "object.__setattr__")))
  (kp_BadEdge : PySem.W.keepIn K (.ref BadEdge) = true)
  (ga_BadEdge : PySem.W.findIn K (.ref BadEdge) "__getattribute__" = some (some (.builtin "BaseException.__getattribute__")))
  (gg_BadEdge : PySem.W.findIn K (.ref BadEdge) "__getattr__" = some none)
  (hd_BadEdge : PySem.W.hasDictIn K BadEdge = true)
  (ia_BadEdge : PySem.W.findIn K (.ref BadEdge) "__init__" = some (some (.ref BadEdge_i)))
  (it_BadEdge : PySem.W.typeIn K (.ref BadEdge_i) = some (.type "function"))
  (il_BadEdge : K.lookup BadEdge_i = some ⟨oc_BadEdge, od_BadEdge, .func (PySem.W.fnOf "__init__" "BadEdge.__init__" (defArgs s_BadEdge___init__) (defBody s_BadEdge___init__) (defScope s_BadEdge___init__) .none kV_BadEdge dc_BadEdge pm_BadEdge an_BadEdge cd_BadEdge ct_BadEdge), sl_BadEdge⟩)
  (ic_BadEdge : PySem.W.codeIn K cd_BadEdge "BadEdge.__init__" = true)
  (ik_BadEdge : PySem.W.keepIn K (.ref BadEdge_i) = true)
  (no_BadEdge_edge : PySem.W.findIn K (.ref BadEdge) "edge" = some none)
  (x_BadFace : K.lookup BadFace = some (excClassObj nm_BadFace q_BadFace BadFace N_BadFace bs_BadFace bm_BadFace true sn_BadFace su_BadFace ab_BadFace co_BadFace dd_BadFace m0_BadFace m1_BadFace m2_BadFace m3_BadFace m5_BadFace "ValueError.__new__"))
  (rv_BadFace : PySem.HandSPX.refsVE bm_BadFace = true)
  (sa_BadFace : PySem.W.findIn K (.ref BadFace) "__setattr__" = some (some (.builtin "object.__setattr__")))
  (kp_BadFace : PySem.W.keepIn K (.ref BadFace) = true)
  (ga_BadFace : PySem.W.findIn K (.ref BadFace) "__getattribute__" = some (some (.builtin "BaseException.__getattribute__")))
  (gg_BadFace : PySem.W.findIn K (.ref BadFace) "__getattr__" = some none)
  (hd_BadFace : PySem.W.hasDictIn K BadFace = true)
  (ia_BadFace : PySem.W.findIn K (.ref BadFace) "__init__" = some (some (.ref BadFace_i)))
  (it_BadFace : PySem.W.typeIn K (.ref BadFace_i) = some (.type "function"))
  (il_BadFace : K.lookup BadFace_i = some ⟨oc_BadFace, od_BadFace, .func (PySem.W.fnOf "__init__" "BadFace.__init__" (defArgs s_BadFace___init__) (defBody s_BadFace___init__) (defScope s_BadFace___init__) .none kV_BadFace dc_BadFace pm_BadFace an_BadFace cd_BadFace ct_BadFace), sl_BadFace⟩)
  (ic_BadFace : PySem.W.codeIn K cd_BadFace "BadFace.__init__" = true)
  (ik_BadFace : PySem.W.keepIn K (.ref BadFace_i) = true)
  (no_BadFace_face : PySem.W.findIn K (.ref BadFace) "face" = some none)
  (x_NoEdge : K.lookup NoEdge = some (excClassObj nm_NoEdge q_NoEdge NoEdge N_NoEdge bs_NoEdge bm_NoEdge true sn_NoEdge su_NoEdge ab_NoEdge co_NoEdge dd_NoEdge m0_NoEdge m1_NoEdge m2_NoEdge m3_NoEdge m5_NoEdge "ValueError.__new__"))
  (rv_NoEdge : PySem.HandSPX.refsVE bm_NoEdge = true)
  (sa_NoEdge : PySem.W.findIn K (.ref NoEdge) "__setattr__" = some (some (.builtin "object.__setattr__")))
  (kp_NoEdge : PySem.W.keepIn K (.ref NoEdge) = true)
  (ga_NoEdge : PySem.W.findIn K (.ref NoEdge) "__getattribute__" = some (some (.builtin "BaseException.__getattribute__")))
  (gg_NoEdge : PySem.W.findIn K (.ref NoEdge) "__getattr__" = some none)
  (hd_NoEdge : PySem.W.hasDictIn K NoEdge = true)
  (ia_NoEdge : PySem.W.findIn K (.ref NoEdge) "__init__" = some (some (.ref NoEdge_i)))
  (it_NoEdge : PySem.W.typeIn K (.ref NoEdge_i) = some (.type "function"))
  (il_NoEdge : K.lookup NoEdge_i = some ⟨oc_NoEdge, od_NoEdge, .func (PySem.W.fnOf "__init__" "NoEdge.__init__" (defArgs s_NoEdge___init__) (defBody s_NoEdge___init__) (defScope s_NoEdge___init__) .none kV_NoEdge dc_NoEdge pm_NoEdge an_NoEdge cd_NoEdge ct_NoEdge), sl_NoEdge⟩)
  (ic_NoEdge : PySem.W.codeIn K cd_NoEdge "NoEdge.__init__" = true)
  (ik_NoEdge : PySem.W.keepIn K (.ref NoEdge_i) = true)
  (no_NoEdge_face : PySem.W.findIn K (.ref NoEdge) "face" = some none)
  (no_NoEdge_beside : PySem.W.findIn K (.ref NoEdge) "beside" = some none)
  (mk_Box : PySem.W.makesIn K Box = true)
  (ia_Box : PySem.W.findIn K (.ref Box) "__init__" = some (some (.ref Box_i)))
  (fn_Box : PySem.W.isFn K (.ref Box_i) = true)
  (kp_Box : PySem.W.keepIn K (.ref Box) = true)
  (pg_Box : PySem.W.plainGet K Box Str.empty = true)
  (hd_Box : PySem.W.hasDictIn K Box = true)
  (po_Box : PySem.W.plainOver K Box = true)
  (sa_Box : PySem.W.findIn K (.ref Box) "__setattr__" = some (some (.builtin "object.__setattr__")))
  (il_Box : K.lookup Box_i = some ⟨oc_Box, od_Box, .func (PySem.W.fnOf "__init__" "Box.__init__" (defArgs s_Box___init__) (defBody s_Box___init__) (defScope s_Box___init__) .none kV_Box dc_Box pm_Box an_Box cd_Box ct_Box), sl_Box⟩)
  (ic_Box : PySem.W.codeIn K cd_Box "Box.__init__" = true)
  (ik_Box : PySem.W.keepIn K (.ref Box_i) = true)
  (na_Box_sides : PySem.W.findIn K (.ref Box) "sides" = some none)
  (qe_Box : PySem.W.findIn K (.ref Box) "__eq__" = some (some (.ref Box_q)))
  (qf_Box : PySem.W.isFn K (.ref Box_q) = true)
  (qn_Box : PySem.W.findIn K (.ref Box) "__ne__" = some (some (.builtin "object.__ne__")))
  (qo_Box : PySem.W.subIn K (.ref Box) (.type "object") = some true)
  (ql_Box : K.lookup Box_q = some ⟨ocq_Box, odq_Box, .func (PySem.W.fnOf "__eq__" "Box.__eq__" (defArgs s_Box___eq__) (defBody s_Box___eq__) (defScope s_Box___eq__) .none kVq_Box dcq_Box pmq_Box anq_Box cdq_Box ctq_Box), slq_Box⟩)
  (qc_Box : PySem.W.codeIn K cdq_Box "Box.__eq__" = true)
  (qk_Box : PySem.W.keepIn K (.ref Box_q) = true)
  (pa_Box_skin_area : PySem.W.findIn K (.ref Box) "skin_area" = some (some (.ref Box_skin_area_p)))
  (pb_Box_skin_area : PySem.W.specialIn K (.ref Box_skin_area_p) "__get__" = some (some (.builtin "property.__get__")))
  (pc_Box_skin_area : PySem.W.takesIn K (.ref Box_skin_area_p) = some true)
  (pd_Box_skin_area : PySem.W.recIn K Box_skin_area_p "property" = some (.ref Box_skin_area_g :: rs_Box_skin_area))
  (pl_Box_skin_area : K.lookup Box_skin_area_g = some ⟨ocp_Box_skin_area, odp_Box_skin_area, .func (PySem.W.fnOf "skin_area" "Box.skin_area" (defArgs s_Box_skin_area) (defBody s_Box_skin_area) (defScope s_Box_skin_area) .none kVp_Box_skin_area dcp_Box_skin_area pmp_Box_skin_area anp_Box_skin_area cdp_Box_skin_area ctp_Box_skin_area), slp_Box_skin_area⟩)
  (pe_Box_skin_area : PySem.W.codeIn K cdp_Box_skin_area "Box.skin_area" = true)
  (pk_Box_skin_area : PySem.W.keepIn K (.ref Box_skin_area_g) = true)
  (pa_Box_corner_places : PySem.W.findIn K (.ref Box) "corner_places" = some (some (.ref Box_corner_places_p)))
  (pb_Box_corner_places : PySem.W.specialIn K (.ref Box_corner_places_p) "__get__" = some (some (.builtin "property.__get__")))
  (pc_Box_corner_places : PySem.W.takesIn K (.ref Box_corner_places_p) = some true)
  (pd_Box_corner_places : PySem.W.recIn K Box_corner_places_p "property" = some (.ref Box_corner_places_g :: rs_Box_corner_places))
  (pl_Box_corner_places : K.lookup Box_corner_places_g = some ⟨ocp_Box_corner_places, odp_Box_corner_places, .func (PySem.W.fnOf "corner_places" "Box.corner_places" (defArgs s_Box_corner_places) (defBody s_Box_corner_places) (defScope s_Box_corner_places) .none kVp_Box_corner_places dcp_Box_corner_places pmp_Box_corner_places anp_Box_corner_places cdp_Box_corner_places ctp_Box_corner_places), slp_Box_corner_places⟩)
  (pe_Box_corner_places : PySem.W.codeIn K cdp_Box_corner_places "Box.corner_places" = true)
  (pk_Box_corner_places : PySem.W.keepIn K (.ref Box_corner_places_g) = true)
  (ja_Box : PySem.W.findIn K (.ref Box) "__class__" = some (some (.builtin "object.__class__")))
  (jm_Box : PySem.W.mroIn K Box (.type "object") = some true)
  (jn : PySem.W.specialIn K (.builtin "object.__class__") "__get__" = some (some (.builtin "getset_descriptor.__get__")))
  (jt : PySem.W.takesIn K (.builtin "object.__class__") = some true)
  (jc_Box : PySem.W.isClsIn K Box = true)
  (jy_Box : PySem.W.typeIn K (.ref Box) = some (.type "type"))
  (jb_Box_NoneType : PySem.W.subIn K (.type "NoneType") (.ref Box) = some false)
  (jb_Box_bool : PySem.W.subIn K (.type "bool") (.ref Box) = some false)
  (jb_Box_int : PySem.W.subIn K (.type "int") (.ref Box) = some false)
  (jb_Box_str : PySem.W.subIn K (.type "str") (.ref Box) = some false)
  (jb_Box_tuple : PySem.W.subIn K (.type "tuple") (.ref Box) = some false)
  (jb_Box_list : PySem.W.subIn K (.type "list") (.ref Box) = some false)
  (sb_BadBox_BadBox : PySem.W.subIn K (.ref BadBox) (.ref BadBox) = some true)
  (sb_BadBox_BadCorner : PySem.W.subIn K (.ref BadBox) (.ref BadCorner) = some false)
  (sb_BadBox_BadEdge : PySem.W.subIn K (.ref BadBox) (.ref BadEdge) = some false)
  (sb_BadBox_BadFace : PySem.W.subIn K (.ref BadBox) (.ref BadFace) = some false)
  (sb_BadBox_NoEdge : PySem.W.subIn K (.ref BadBox) (.ref NoEdge) = some false)
  (sb_BadBox_ParcelError : PySem.W.subIn K (.ref BadBox) (.ref ParcelError) = some true)
  (sb_BadCorner_BadBox : PySem.W.subIn K (.ref BadCorner) (.ref BadBox) = some false)
  (sb_BadCorner_BadCorner : PySem.W.subIn K (.ref BadCorner) (.ref BadCorner) = some true)
  (sb_BadCorner_BadEdge : PySem.W.subIn K (.ref BadCorner) (.ref BadEdge) = some false)
  (sb_BadCorner_BadFace : PySem.W.subIn K (.ref BadCorner) (.ref BadFace) = some false)
  (sb_BadCorner_NoEdge : PySem.W.subIn K (.ref BadCorner) (.ref NoEdge) = some false)
  (sb_BadCorner_ParcelError : PySem.W.subIn K (.ref BadCorner) (.ref ParcelError) = some true)
  (sb_BadEdge_BadBox : PySem.W.subIn K (.ref BadEdge) (.ref BadBox) = some false)
  (sb_BadEdge_BadCorner : PySem.W.subIn K (.ref BadEdge) (.ref BadCorner) = some false)
  (sb_BadEdge_BadEdge : PySem.W.subIn K (.ref BadEdge) (.ref BadEdge) = some true)
  (sb_BadEdge_BadFace : PySem.W.subIn K (.ref BadEdge) (.ref BadFace) = some false)
  (sb_BadEdge_NoEdge : PySem.W.subIn K (.ref BadEdge) (.ref NoEdge) = some false)
  (sb_BadEdge_ParcelError : PySem.W.subIn K (.ref BadEdge) (.ref ParcelError) = some true)
  (sb_BadFace_BadBox : PySem.W.subIn K (.ref BadFace) (.ref BadBox) = some false)
  (sb_BadFace_BadCorner : PySem.W.subIn K (.ref BadFace) (.ref BadCorner) = some false)
  (sb_BadFace_BadEdge : PySem.W.subIn K (.ref BadFace) (.ref BadEdge) = some false)
  (sb_BadFace_BadFace : PySem.W.subIn K (.ref BadFace) (.ref BadFace) = some true)
  (sb_BadFace_NoEdge : PySem.W.subIn K (.ref BadFace) (.ref NoEdge) = some false)
  (sb_BadFace_ParcelError : PySem.W.subIn K (.ref BadFace) (.ref ParcelError) = some true)
  (sb_NoEdge_BadBox : PySem.W.subIn K (.ref NoEdge) (.ref BadBox) = some false)
  (sb_NoEdge_BadCorner : PySem.W.subIn K (.ref NoEdge) (.ref BadCorner) = some false)
  (sb_NoEdge_BadEdge : PySem.W.subIn K (.ref NoEdge) (.ref BadEdge) = some false)
  (sb_NoEdge_BadFace : PySem.W.subIn K (.ref NoEdge) (.ref BadFace) = some false)
  (sb_NoEdge_NoEdge : PySem.W.subIn K (.ref NoEdge) (.ref NoEdge) = some true)
  (sb_NoEdge_ParcelError : PySem.W.subIn K (.ref NoEdge) (.ref ParcelError) = some true)
  (go : ∀ (ParcelError : Addr) (BadBox : Addr) (BadCorner : Addr) (BadFace : Addr) (BadEdge : Addr) (NoEdge : Addr) (Box : Addr) (BadBox_i : Addr) (fd_BadBox : FuncData) (BadCorner_i : Addr) (fd_BadCorner : FuncData) (BadEdge_i : Addr) (fd_BadEdge : FuncData) (BadFace_i : Addr) (fd_BadFace : FuncData) (NoEdge_i : Addr) (fd_NoEdge : FuncData) (Box_i : Addr) (fd_Box : FuncData) (Box_q : Addr) (fdq_Box : FuncData) (Box_skin_area_g Box_skin_area_p : Addr) (fdg_Box_skin_area : FuncData) (Box_corner_places_g Box_corner_places_p : Addr) (fdg_Box_corner_places : FuncData), mg "ParcelError" = some (.ref ParcelError) → mg "BadBox" = some (.ref BadBox) → mg "BadCorner" = some (.ref BadCorner) → mg "BadFace" = some (.ref BadFace) → mg "BadEdge" = some (.ref BadEdge) → mg "NoEdge" = some (.ref NoEdge) → mg "Box" = some (.ref Box) → OexC K BadBox → PySem.W.findIn K (.ref BadBox) "__init__" = some (some (.ref BadBox_i)) → PySem.W.typeIn K (.ref BadBox_i) = some (.type "function") → Fun K "__init__" "BadBox.__init__" s_BadBox___init__ BadBox_i fd_BadBox → XfC K BadBox → PySem.W.findIn K (.ref BadBox) "index" = some none → OexC K BadCorner → PySem.W.findIn K (.ref BadCorner) "__init__" = some (some (.ref BadCorner_i)) → PySem.W.typeIn K (.ref BadCorner_i) = some (.type "function") → Fun K "__init__" "BadCorner.__init__" s_BadCorner___init__ BadCorner_i fd_BadCorner → XfC K BadCorner → PySem.W.findIn K (.ref BadCorner) "corner" = some none → OexC K BadEdge → PySem.W.findIn K (.ref BadEdge) "__init__" = some (some (.ref BadEdge_i)) → PySem.W.typeIn K (.ref BadEdge_i) = some (.type "function") → Fun K "__init__" "BadEdge.__init__" s_BadEdge___init__ BadEdge_i fd_BadEdge → XfC K BadEdge → PySem.W.findIn K (.ref BadEdge) "edge" = some none → OexC K BadFace → PySem.W.findIn K (.ref BadFace) "__init__" = some (some (.ref BadFace_i)) → PySem.W.typeIn K (.ref BadFace_i) = some (.type "function") → Fun K "__init__" "BadFace.__init__" s_BadFace___init__ BadFace_i fd_BadFace → XfC K BadFace → PySem.W.findIn K (.ref BadFace) "face" = some none → OexC K NoEdge → PySem.W.findIn K (.ref NoEdge) "__init__" = some (some (.ref NoEdge_i)) → PySem.W.typeIn K (.ref NoEdge_i) = some (.type "function") → Fun K "__init__" "NoEdge.__init__" s_NoEdge___init__ NoEdge_i fd_NoEdge → XfC K NoEdge → PySem.W.findIn K (.ref NoEdge) "face" = some none → PySem.W.findIn K (.ref NoEdge) "beside" = some none → Mk K Box Box_i → Cls K Box → Fun K "__init__" "Box.__init__" s_Box___init__ Box_i fd_Box → NoAttr K Box "sides" → OwnT K Box Box_q → Fun K "__eq__" "Box.__eq__" s_Box___eq__ Box_q fdq_Box → PropOf K Box "skin_area" Box_skin_area_p Box_skin_area_g → Fun K "skin_area" "Box.skin_area" s_Box_skin_area Box_skin_area_g fdg_Box_skin_area → PropOf K Box "corner_places" Box_corner_places_p Box_corner_places_g → Fun K "corner_places" "Box.corner_places" s_Box_corner_places Box_corner_places_g fdg_Box_corner_places → InsT K Box → (∀ n ∈ tyns, PySem.W.kitOne K (.type n) (.ref Box) = some false) → PySem.W.kitOne K (.ref Box) (.ref Box) = some true → PySem.W.exmOne K (.ref BadBox) (.ref BadBox) = some true → PySem.W.exmOne K (.ref BadBox) (.ref BadCorner) = some false → PySem.W.exmOne K (.ref BadBox) (.ref BadEdge) = some false → PySem.W.exmOne K (.ref BadBox) (.ref BadFace) = some false → PySem.W.exmOne K (.ref BadBox) (.ref NoEdge) = some false → PySem.W.exmOne K (.ref BadBox) (.ref ParcelError) = some true → PySem.W.exmOne K (.ref BadCorner) (.ref BadBox) = some false → PySem.W.exmOne K (.ref BadCorner) (.ref BadCorner) = some true → PySem.W.exmOne K (.ref BadCorner) (.ref BadEdge) = some false → PySem.W.exmOne K (.ref BadCorner) (.ref BadFace) = some false → PySem.W.exmOne K (.ref BadCorner) (.ref NoEdge) = some false → PySem.W.exmOne K (.ref BadCorner) (.ref ParcelError) = some true → PySem.W.exmOne K (.ref BadEdge) (.ref BadBox) = some false → PySem.W.exmOne K (.ref BadEdge) (.ref BadCorner) = some false → PySem.W.exmOne K (.ref BadEdge) (.ref BadEdge) = some true → PySem.W.exmOne K (.ref BadEdge) (.ref BadFace) = some false → PySem.W.exmOne K (.ref BadEdge) (.ref NoEdge) = some false → PySem.W.exmOne K (.ref BadEdge) (.ref ParcelError) = some true → PySem.W.exmOne K (.ref BadFace) (.ref BadBox) = some false → PySem.W.exmOne K (.ref BadFace) (.ref BadCorner) = some false → PySem.W.exmOne K (.ref BadFace) (.ref BadEdge) = some false → PySem.W.exmOne K (.ref BadFace) (.ref BadFace) = some true → PySem.W.exmOne K (.ref BadFace) (.ref NoEdge) = some false → PySem.W.exmOne K (.ref BadFace) (.ref ParcelError) = some true → PySem.W.exmOne K (.ref NoEdge) (.ref BadBox) = some false → PySem.W.exmOne K (.ref NoEdge) (.ref BadCorner) = some false → PySem.W.exmOne K (.ref NoEdge) (.ref BadEdge) = some false → PySem.W.exmOne K (.ref NoEdge) (.ref BadFace) = some false → PySem.W.exmOne K (.ref NoEdge) (.ref NoEdge) = some true → PySem.W.exmOne K (.ref NoEdge) (.ref ParcelError) = some true → Goal) : Goal :=
  go _ _ _ _ _ _ _ _ _ _ _ _ _ _ _ _ _ _ _ _ _ _ _ _ _ _ _ (PySem.W.mg_of X G a_ParcelError) (PySem.W.mg_of X G a_BadBox) (PySem.W.mg_of X G a_BadCorner) (PySem.W.mg_of X G a_BadFace) (PySem.W.mg_of X G a_BadEdge) (PySem.W.mg_of X G a_NoEdge) (PySem.W.mg_of X G a_Box) (oex_at x_BadBox rv_BadBox sa_BadBox ex_BadBox ty_BadBox kp_BadBox) (ia_BadBox) (it_BadBox) (fun_mk il_BadBox ic_BadBox ik_BadBox) ⟨ga_BadBox, gg_BadBox, ex_BadBox, hd_BadBox⟩ (no_BadBox_index) (oex_at x_BadCorner rv_BadCorner sa_BadCorner ex_BadCorner ty_BadCorner kp_BadCorner) (ia_BadCorner) (it_BadCorner) (fun_mk il_BadCorner ic_BadCorner ik_BadCorner) ⟨ga_BadCorner, gg_BadCorner, ex_BadCorner, hd_BadCorner⟩ (no_BadCorner_corner) (oex_at x_BadEdge rv_BadEdge sa_BadEdge ex_BadEdge ty_BadEdge kp_BadEdge) (ia_BadEdge) (it_BadEdge) (fun_mk il_BadEdge ic_BadEdge ik_BadEdge) ⟨ga_BadEdge, gg_BadEdge, ex_BadEdge, hd_BadEdge⟩ (no_BadEdge_edge) (oex_at x_BadFace rv_BadFace sa_BadFace ex_BadFace ty_BadFace kp_BadFace) (ia_BadFace) (it_BadFace) (fun_mk il_BadFace ic_BadFace ik_BadFace) ⟨ga_BadFace, gg_BadFace, ex_BadFace, hd_BadFace⟩ (no_BadFace_face) (oex_at x_NoEdge rv_NoEdge sa_NoEdge ex_NoEdge ty_NoEdge kp_NoEdge) (ia_NoEdge) (it_NoEdge) (fun_mk il_NoEdge ic_NoEdge ik_NoEdge) ⟨ga_NoEdge, gg_NoEdge, ex_NoEdge, hd_NoEdge⟩ (no_NoEdge_face) (no_NoEdge_beside) ⟨mk_Box, ia_Box, fn_Box, kp_Box⟩ ⟨pg_Box, hd_Box, po_Box, sa_Box⟩ (fun_mk il_Box ic_Box ik_Box) (na_Box_sides) ⟨qe_Box, qf_Box, qn_Box, qo_Box⟩ (fun_mk ql_Box qc_Box qk_Box) ⟨pa_Box_skin_area, pb_Box_skin_area, pc_Box_skin_area, ⟨_, pd_Box_skin_area⟩⟩ (fun_mk pl_Box_skin_area pe_Box_skin_area pk_Box_skin_area) ⟨pa_Box_corner_places, pb_Box_corner_places, pc_Box_corner_places, ⟨_, pd_Box_corner_places⟩⟩ (fun_mk pl_Box_corner_places pe_Box_corner_places pk_Box_corner_places) ⟨⟨pg_Box, hd_Box, po_Box, sa_Box⟩, ja_Box, jn, jt, jm_Box⟩ (fun n hn => by rcases (by simpa [tyns] using hn : n = "NoneType" ∨ n = "bool" ∨ n = "int" ∨ n = "str" ∨ n = "tuple" ∨ n = "list") with rfl | rfl | rfl | rfl | rfl | rfl; exact kit_bt jc_Box jy_Box jb_Box_NoneType; exact kit_bt jc_Box jy_Box jb_Box_bool; exact kit_bt jc_Box jy_Box jb_Box_int; exact kit_bt jc_Box jy_Box jb_Box_str; exact kit_bt jc_Box jy_Box jb_Box_tuple; exact kit_bt jc_Box jy_Box jb_Box_list) (kit_self) (exm_at ex_BadBox is_BadBox ty_BadBox sb_BadBox_BadBox) (exm_at ex_BadCorner is_BadCorner ty_BadCorner sb_BadBox_BadCorner) (exm_at ex_BadEdge is_BadEdge ty_BadEdge sb_BadBox_BadEdge) (exm_at ex_BadFace is_BadFace ty_BadFace sb_BadBox_BadFace) (exm_at ex_NoEdge is_NoEdge ty_NoEdge sb_BadBox_NoEdge) (exm_at ex_ParcelError is_ParcelError ty_ParcelError sb_BadBox_ParcelError) (exm_at ex_BadBox is_BadBox ty_BadBox sb_BadCorner_BadBox) (exm_at ex_BadCorner is_BadCorner ty_BadCorner sb_BadCorner_BadCorner) (exm_at ex_BadEdge is_BadEdge ty_BadEdge sb_BadCorner_BadEdge) (exm_at ex_BadFace is_BadFace ty_BadFace sb_BadCorner_BadFace) (exm_at ex_NoEdge is_NoEdge ty_NoEdge sb_BadCorner_NoEdge) (exm_at ex_ParcelError is_ParcelError ty_ParcelError sb_BadCorner_ParcelError) (exm_at ex_BadBox is_BadBox ty_BadBox sb_BadEdge_BadBox) (exm_at ex_BadCorner is_BadCorner ty_BadCorner sb_BadEdge_BadCorner) (exm_at ex_BadEdge is_BadEdge ty_BadEdge sb_BadEdge_BadEdge) (exm_at ex_BadFace is_BadFace ty_BadFace sb_BadEdge_BadFace) (exm_at ex_NoEdge is_NoEdge ty_NoEdge sb_BadEdge_NoEdge) (exm_at ex_ParcelError is_ParcelError ty_ParcelError sb_BadEdge_ParcelError) (exm_at ex_BadBox is_BadBox ty_BadBox sb_BadFace_BadBox) (exm_at ex_BadCorner is_BadCorner ty_BadCorner sb_BadFace_BadCorner) (exm_at ex_BadEdge is_BadEdge ty_BadEdge sb_BadFace_BadEdge) (exm_at ex_BadFace is_BadFace ty_BadFace sb_BadFace_BadFace) (exm_at ex_NoEdge is_NoEdge ty_NoEdge sb_BadFace_NoEdge) (exm_at ex_ParcelError is_ParcelError ty_ParcelError sb_BadFace_ParcelError) (exm_at ex_BadBox is_BadBox ty_BadBox sb_NoEdge_BadBox) (exm_at ex_BadCorner is_BadCorner ty_BadCorner sb_NoEdge_BadCorner) (exm_at ex_BadEdge is_BadEdge ty_BadEdge sb_NoEdge_BadEdge) (exm_at ex_BadFace is_BadFace ty_BadFace sb_NoEdge_BadFace) (exm_at ex_NoEdge is_NoEdge ty_NoEdge sb_NoEdge_NoEdge) (exm_at ex_ParcelError is_ParcelError ty_ParcelError sb_NoEdge_ParcelError)
end K02
open L2 PySem PyProof.Rows PySem.Spec Ez
open PyProof.Rows PySem PySem.W in
set_option maxRecDepth 99999 in
set_option maxHeartbeats 0 in
theorem PySem.Challenge.cw_tautparcel_k02_whole_boxes_faces_and_edg_holds : PySem.Challenge.rw_tautparcel_k02_whole_boxes_faces_and_edg.Holds := by
  w_on; o_law
  k_head
  (case hw => w_witness2)
  k_fill
  refine Ez.walkK (l := PySem.Challenge.rw_tautparcel_k02_whole_boxes_faces_and_edg) (n := 63) (k := 28) (x := "_law_script") rfl (by decide) rfl ⟨rfl, by decide, by decide⟩ (fun w h Y => PySem.W.kIn_of Y) ?F
  case F =>
    intro w mg fa h KX G hmg
    have b_tuple : mg "tuple" = none := PySem.W.mg_none_of KX G (by k_is)
    have b_isinstance : mg "isinstance" = none := PySem.W.mg_none_of KX G (by k_is)
    have b_range : mg "range" = none := PySem.W.mg_none_of KX G (by k_is)
    have b_list : mg "list" = none := PySem.W.mg_none_of KX G (by k_is)
    have b_bool : mg "bool" = none := PySem.W.mg_none_of KX G (by k_is)
    have b_enumerate : mg "enumerate" = none := PySem.W.mg_none_of KX G (by k_is)
    have b_min : mg "min" = none := PySem.W.mg_none_of KX G (by k_is)
    have b_max : mg "max" = none := PySem.W.mg_none_of KX G (by k_is)
    have b_int : mg "int" = none := PySem.W.mg_none_of KX G (by k_is)
    have b_len : mg "len" = none := PySem.W.mg_none_of KX G (by k_is)
    have b_abs : mg "abs" = none := PySem.W.mg_none_of KX G (by k_is)
    have b_repr : mg "repr" = none := PySem.W.mg_none_of KX G (by k_is)
    have b_sorted : mg "sorted" = none := PySem.W.mg_none_of KX G (by k_is)
    have b_sum : mg "sum" = none := PySem.W.mg_none_of KX G (by k_is)
    have m_LONGEST_SIDE : ∃ t, mg "LONGEST_SIDE" = some (.int 60 t) := ⟨_, PySem.W.mg_of KX G (by k_is)⟩
    refine' Ez.constKK_elim (x := "FACE_AXES") (xss := [[.int 2, .int 1], [.int 1, .int 2], [.int 0, .int 2], [.int 2, .int 0], [.int 1, .int 0], [.int 0, .int 1]]) KX G ?c ?l ?r (by decide) (by decide) fun c_FACE_AXES m_FACE_AXES i_FACE_AXES => ?_
    (case c => k_is); (case l => k_is)
    (case r => (repeat refine Ez.Rows2.cons (by k_is) (by (repeat refine .cons (by first | exact ⟨_, rfl⟩ | rfl) ?_); exact .nil) (by decide) ?_); exact Ez.Rows2.nil)
    refine' K02.cls_elim KX G ?a_ParcelError ?a_BadBox ?a_BadCorner ?a_BadFace ?a_BadEdge ?a_NoEdge ?a_Box ?ex_ParcelError ?ty_ParcelError ?is_ParcelError ?ex_BadBox ?ty_BadBox ?is_BadBox ?ex_BadCorner ?ty_BadCorner ?is_BadCorner ?ex_BadFace ?ty_BadFace ?is_BadFace ?ex_BadEdge ?ty_BadEdge ?is_BadEdge ?ex_NoEdge ?ty_NoEdge ?is_NoEdge ?x_BadBox ?rv_BadBox ?sa_BadBox ?kp_BadBox ?ga_BadBox ?gg_BadBox ?hd_BadBox ?ia_BadBox ?it_BadBox ?il_BadBox ?ic_BadBox ?ik_BadBox ?no_BadBox_index ?x_BadCorner ?rv_BadCorner ?sa_BadCorner ?kp_BadCorner ?ga_BadCorner ?gg_BadCorner ?hd_BadCorner ?ia_BadCorner ?it_BadCorner ?il_BadCorner ?ic_BadCorner ?ik_BadCorner ?no_BadCorner_corner ?x_BadEdge ?rv_BadEdge ?sa_BadEdge ?kp_BadEdge ?ga_BadEdge ?gg_BadEdge ?hd_BadEdge ?ia_BadEdge ?it_BadEdge ?il_BadEdge ?ic_BadEdge ?ik_BadEdge ?no_BadEdge_edge ?x_BadFace ?rv_BadFace ?sa_BadFace ?kp_BadFace ?ga_BadFace ?gg_BadFace ?hd_BadFace ?ia_BadFace ?it_BadFace ?il_BadFace ?ic_BadFace ?ik_BadFace ?no_BadFace_face ?x_NoEdge ?rv_NoEdge ?sa_NoEdge ?kp_NoEdge ?ga_NoEdge ?gg_NoEdge ?hd_NoEdge ?ia_NoEdge ?it_NoEdge ?il_NoEdge ?ic_NoEdge ?ik_NoEdge ?no_NoEdge_face ?no_NoEdge_beside ?mk_Box ?ia_Box ?fn_Box ?kp_Box ?pg_Box ?hd_Box ?po_Box ?sa_Box ?il_Box ?ic_Box ?ik_Box ?na_Box_sides ?qe_Box ?qf_Box ?qn_Box ?qo_Box ?ql_Box ?qc_Box ?qk_Box ?pa_Box_skin_area ?pb_Box_skin_area ?pc_Box_skin_area ?pd_Box_skin_area ?pl_Box_skin_area ?pe_Box_skin_area ?pk_Box_skin_area ?pa_Box_corner_places ?pb_Box_corner_places ?pc_Box_corner_places ?pd_Box_corner_places ?pl_Box_corner_places ?pe_Box_corner_places ?pk_Box_corner_places ?ja_Box ?jm_Box ?jn ?jt ?jc_Box ?jy_Box ?jb_Box_NoneType ?jb_Box_bool ?jb_Box_int ?jb_Box_str ?jb_Box_tuple ?jb_Box_list ?sb_BadBox_BadBox ?sb_BadBox_BadCorner ?sb_BadBox_BadEdge ?sb_BadBox_BadFace ?sb_BadBox_NoEdge ?sb_BadBox_ParcelError ?sb_BadCorner_BadBox ?sb_BadCorner_BadCorner ?sb_BadCorner_BadEdge ?sb_BadCorner_BadFace ?sb_BadCorner_NoEdge ?sb_BadCorner_ParcelError ?sb_BadEdge_BadBox ?sb_BadEdge_BadCorner ?sb_BadEdge_BadEdge ?sb_BadEdge_BadFace ?sb_BadEdge_NoEdge ?sb_BadEdge_ParcelError ?sb_BadFace_BadBox ?sb_BadFace_BadCorner ?sb_BadFace_BadEdge ?sb_BadFace_BadFace ?sb_BadFace_NoEdge ?sb_BadFace_ParcelError ?sb_NoEdge_BadBox ?sb_NoEdge_BadCorner ?sb_NoEdge_BadEdge ?sb_NoEdge_BadFace ?sb_NoEdge_NoEdge ?sb_NoEdge_ParcelError fun ParcelError BadBox BadCorner BadFace BadEdge NoEdge Box BadBox_i fd_BadBox BadCorner_i fd_BadCorner BadEdge_i fd_BadEdge BadFace_i fd_BadFace NoEdge_i fd_NoEdge Box_i fd_Box Box_q fdq_Box Box_skin_area_g Box_skin_area_p fdg_Box_skin_area Box_corner_places_g Box_corner_places_p fdg_Box_corner_places m_ParcelError m_BadBox m_BadCorner m_BadFace m_BadEdge m_NoEdge m_Box o_BadBox i_BadBox t_BadBox F_BadBox x_BadBox xn_BadBox_index o_BadCorner i_BadCorner t_BadCorner F_BadCorner x_BadCorner xn_BadCorner_corner o_BadEdge i_BadEdge t_BadEdge F_BadEdge x_BadEdge xn_BadEdge_edge o_BadFace i_BadFace t_BadFace F_BadFace x_BadFace xn_BadFace_face o_NoEdge i_NoEdge t_NoEdge F_NoEdge x_NoEdge xn_NoEdge_face xn_NoEdge_beside mk_Box cl_Box F_Box na_Box_sides oe_Box Fq_Box pr_Box_skin_area Fp_Box_skin_area pr_Box_corner_places Fp_Box_corner_places it_Box in_Box io_Box_Box e_BadBox_BadBox e_BadBox_BadCorner e_BadBox_BadEdge e_BadBox_BadFace e_BadBox_NoEdge e_BadBox_ParcelError e_BadCorner_BadBox e_BadCorner_BadCorner e_BadCorner_BadEdge e_BadCorner_BadFace e_BadCorner_NoEdge e_BadCorner_ParcelError e_BadEdge_BadBox e_BadEdge_BadCorner e_BadEdge_BadEdge e_BadEdge_BadFace e_BadEdge_NoEdge e_BadEdge_ParcelError e_BadFace_BadBox e_BadFace_BadCorner e_BadFace_BadEdge e_BadFace_BadFace e_BadFace_NoEdge e_BadFace_ParcelError e_NoEdge_BadBox e_NoEdge_BadCorner e_NoEdge_BadEdge e_NoEdge_BadFace e_NoEdge_NoEdge e_NoEdge_ParcelError => ?_
    (case a_ParcelError => first | k_is | rfl)
    (case a_BadBox => first | k_is | rfl)
    (case a_BadCorner => first | k_is | rfl)
    (case a_BadFace => first | k_is | rfl)
    (case a_BadEdge => first | k_is | rfl)
    (case a_NoEdge => first | k_is | rfl)
    (case a_Box => first | k_is | rfl)
    (case ex_ParcelError => first | k_is | rfl)
    (case ty_ParcelError => first | k_is | rfl)
    (case is_ParcelError => first | k_is | rfl)
    (case ex_BadBox => first | k_is | rfl)
    (case ty_BadBox => first | k_is | rfl)
    (case is_BadBox => first | k_is | rfl)
    (case ex_BadCorner => first | k_is | rfl)
    (case ty_BadCorner => first | k_is | rfl)
    (case is_BadCorner => first | k_is | rfl)
    (case ex_BadFace => first | k_is | rfl)
    (case ty_BadFace => first | k_is | rfl)
    (case is_BadFace => first | k_is | rfl)
    (case ex_BadEdge => first | k_is | rfl)
    (case ty_BadEdge => first | k_is | rfl)
    (case is_BadEdge => first | k_is | rfl)
    (case ex_NoEdge => first | k_is | rfl)
    (case ty_NoEdge => first | k_is | rfl)
    (case is_NoEdge => first | k_is | rfl)
    (case x_BadBox => first | k_is | rfl)
    (case rv_BadBox => decide +kernel)
    (case sa_BadBox => first | k_is | rfl)
    (case kp_BadBox => first | k_is | rfl)
    (case ga_BadBox => first | k_is | rfl)
    (case gg_BadBox => first | k_is | rfl)
    (case hd_BadBox => first | k_is | rfl)
    (case ia_BadBox => first | k_is | rfl)
    (case it_BadBox => first | k_is | rfl)
    (case il_BadBox => first | k_is | rfl)
    (case ic_BadBox => first | k_is | rfl)
    (case ik_BadBox => first | k_is | rfl)
    (case no_BadBox_index => first | k_is | rfl)
    (case x_BadCorner => first | k_is | rfl)
    (case rv_BadCorner => decide +kernel)
    (case sa_BadCorner => first | k_is | rfl)
    (case kp_BadCorner => first | k_is | rfl)
    (case ga_BadCorner => first | k_is | rfl)
    (case gg_BadCorner => first | k_is | rfl)
    (case hd_BadCorner => first | k_is | rfl)
    (case ia_BadCorner => first | k_is | rfl)
    (case it_BadCorner => first | k_is | rfl)
    (case il_BadCorner => first | k_is | rfl)
    (case ic_BadCorner => first | k_is | rfl)
    (case ik_BadCorner => first | k_is | rfl)
    (case no_BadCorner_corner => first | k_is | rfl)
    (case x_BadEdge => first | k_is | rfl)
    (case rv_BadEdge => decide +kernel)
    (case sa_BadEdge => first | k_is | rfl)
    (case kp_BadEdge => first | k_is | rfl)
    (case ga_BadEdge => first | k_is | rfl)
    (case gg_BadEdge => first | k_is | rfl)
    (case hd_BadEdge => first | k_is | rfl)
    (case ia_BadEdge => first | k_is | rfl)
    (case it_BadEdge => first | k_is | rfl)
    (case il_BadEdge => first | k_is | rfl)
    (case ic_BadEdge => first | k_is | rfl)
    (case ik_BadEdge => first | k_is | rfl)
    (case no_BadEdge_edge => first | k_is | rfl)
    (case x_BadFace => first | k_is | rfl)
    (case rv_BadFace => decide +kernel)
    (case sa_BadFace => first | k_is | rfl)
    (case kp_BadFace => first | k_is | rfl)
    (case ga_BadFace => first | k_is | rfl)
    (case gg_BadFace => first | k_is | rfl)
    (case hd_BadFace => first | k_is | rfl)
    (case ia_BadFace => first | k_is | rfl)
    (case it_BadFace => first | k_is | rfl)
    (case il_BadFace => first | k_is | rfl)
    (case ic_BadFace => first | k_is | rfl)
    (case ik_BadFace => first | k_is | rfl)
    (case no_BadFace_face => first | k_is | rfl)
    (case x_NoEdge => first | k_is | rfl)
    (case rv_NoEdge => decide +kernel)
    (case sa_NoEdge => first | k_is | rfl)
    (case kp_NoEdge => first | k_is | rfl)
    (case ga_NoEdge => first | k_is | rfl)
    (case gg_NoEdge => first | k_is | rfl)
    (case hd_NoEdge => first | k_is | rfl)
    (case ia_NoEdge => first | k_is | rfl)
    (case it_NoEdge => first | k_is | rfl)
    (case il_NoEdge => first | k_is | rfl)
    (case ic_NoEdge => first | k_is | rfl)
    (case ik_NoEdge => first | k_is | rfl)
    (case no_NoEdge_face => first | k_is | rfl)
    (case no_NoEdge_beside => first | k_is | rfl)
    (case mk_Box => first | k_is | rfl)
    (case ia_Box => first | k_is | rfl)
    (case fn_Box => first | k_is | rfl)
    (case kp_Box => first | k_is | rfl)
    (case pg_Box => first | k_is | rfl)
    (case hd_Box => first | k_is | rfl)
    (case po_Box => first | k_is | rfl)
    (case sa_Box => first | k_is | rfl)
    (case il_Box => first | k_is | rfl)
    (case ic_Box => first | k_is | rfl)
    (case ik_Box => first | k_is | rfl)
    (case na_Box_sides => first | k_is | rfl)
    (case qe_Box => first | k_is | rfl)
    (case qf_Box => first | k_is | rfl)
    (case qn_Box => first | k_is | rfl)
    (case qo_Box => first | k_is | rfl)
    (case ql_Box => first | k_is | rfl)
    (case qc_Box => first | k_is | rfl)
    (case qk_Box => first | k_is | rfl)
    (case pa_Box_skin_area => first | k_is | rfl)
    (case pb_Box_skin_area => first | k_is | rfl)
    (case pc_Box_skin_area => first | k_is | rfl)
    (case pd_Box_skin_area => first | k_is | rfl)
    (case pl_Box_skin_area => first | k_is | rfl)
    (case pe_Box_skin_area => first | k_is | rfl)
    (case pk_Box_skin_area => first | k_is | rfl)
    (case pa_Box_corner_places => first | k_is | rfl)
    (case pb_Box_corner_places => first | k_is | rfl)
    (case pc_Box_corner_places => first | k_is | rfl)
    (case pd_Box_corner_places => first | k_is | rfl)
    (case pl_Box_corner_places => first | k_is | rfl)
    (case pe_Box_corner_places => first | k_is | rfl)
    (case pk_Box_corner_places => first | k_is | rfl)
    (case ja_Box => first | k_is | rfl)
    (case jm_Box => first | k_is | rfl)
    (case jn => first | k_is | rfl)
    (case jt => first | k_is | rfl)
    (case jc_Box => first | k_is | rfl)
    (case jy_Box => first | k_is | rfl)
    (case jb_Box_NoneType => first | k_is | rfl)
    (case jb_Box_bool => first | k_is | rfl)
    (case jb_Box_int => first | k_is | rfl)
    (case jb_Box_str => first | k_is | rfl)
    (case jb_Box_tuple => first | k_is | rfl)
    (case jb_Box_list => first | k_is | rfl)
    (case sb_BadBox_BadBox => first | k_is | rfl)
    (case sb_BadBox_BadCorner => first | k_is | rfl)
    (case sb_BadBox_BadEdge => first | k_is | rfl)
    (case sb_BadBox_BadFace => first | k_is | rfl)
    (case sb_BadBox_NoEdge => first | k_is | rfl)
    (case sb_BadBox_ParcelError => first | k_is | rfl)
    (case sb_BadCorner_BadBox => first | k_is | rfl)
    (case sb_BadCorner_BadCorner => first | k_is | rfl)
    (case sb_BadCorner_BadEdge => first | k_is | rfl)
    (case sb_BadCorner_BadFace => first | k_is | rfl)
    (case sb_BadCorner_NoEdge => first | k_is | rfl)
    (case sb_BadCorner_ParcelError => first | k_is | rfl)
    (case sb_BadEdge_BadBox => first | k_is | rfl)
    (case sb_BadEdge_BadCorner => first | k_is | rfl)
    (case sb_BadEdge_BadEdge => first | k_is | rfl)
    (case sb_BadEdge_BadFace => first | k_is | rfl)
    (case sb_BadEdge_NoEdge => first | k_is | rfl)
    (case sb_BadEdge_ParcelError => first | k_is | rfl)
    (case sb_BadFace_BadBox => first | k_is | rfl)
    (case sb_BadFace_BadCorner => first | k_is | rfl)
    (case sb_BadFace_BadEdge => first | k_is | rfl)
    (case sb_BadFace_BadFace => first | k_is | rfl)
    (case sb_BadFace_NoEdge => first | k_is | rfl)
    (case sb_BadFace_ParcelError => first | k_is | rfl)
    (case sb_NoEdge_BadBox => first | k_is | rfl)
    (case sb_NoEdge_BadCorner => first | k_is | rfl)
    (case sb_NoEdge_BadEdge => first | k_is | rfl)
    (case sb_NoEdge_BadFace => first | k_is | rfl)
    (case sb_NoEdge_NoEdge => first | k_is | rfl)
    (case sb_NoEdge_ParcelError => first | k_is | rfl)
    refine' Ez.defD_elim (x := "is_whole") (st := K02.s_is_whole) (dvs := [.non, .non]) KX G ?a ?l ?c ?k ?t ?v (by simp) fun f_is_whole fd_is_whole m_is_whole k_is_whole F_is_whole => ?_
    (case a => k_is); (case l => k_is); (case c => k_is); (case k => k_is); (case t => k_is); (case v => (repeat refine .cons (by first | exact ⟨_, rfl⟩ | rfl) ?_); exact .nil)
    refine' Ez.def_elim (x := "is_sequence") (st := K02.s_is_sequence) KX G ?a ?l ?c ?k fun f_is_sequence fd_is_sequence m_is_sequence k_is_sequence F_is_sequence => ?_
    (case a => k_is); (case l => k_is); (case c => k_is); (case k => k_is)
    refine' Ez.def_elim (x := "check_face") (st := K02.s_check_face) KX G ?a ?l ?c ?k fun f_check_face fd_check_face m_check_face k_check_face F_check_face => ?_
    (case a => k_is); (case l => k_is); (case c => k_is); (case k => k_is)
    refine' Ez.def_elim (x := "check_corner") (st := K02.s_check_corner) KX G ?a ?l ?c ?k fun f_check_corner fd_check_corner m_check_corner k_check_corner F_check_corner => ?_
    (case a => k_is); (case l => k_is); (case c => k_is); (case k => k_is)
    refine' Ez.def_elim (x := "corner_bit") (st := K02.s_corner_bit) KX G ?a ?l ?c ?k fun f_corner_bit fd_corner_bit m_corner_bit k_corner_bit F_corner_bit => ?_
    (case a => k_is); (case l => k_is); (case c => k_is); (case k => k_is)
    refine' Ez.def_elim (x := "corner_numbers") (st := K02.s_corner_numbers) KX G ?a ?l ?c ?k fun f_corner_numbers fd_corner_numbers m_corner_numbers k_corner_numbers F_corner_numbers => ?_
    (case a => k_is); (case l => k_is); (case c => k_is); (case k => k_is)
    refine' Ez.def_elim (x := "face_axes") (st := K02.s_face_axes) KX G ?a ?l ?c ?k fun f_face_axes fd_face_axes m_face_axes k_face_axes F_face_axes => ?_
    (case a => k_is); (case l => k_is); (case c => k_is); (case k => k_is)
    refine' Ez.def_elim (x := "are_beside") (st := K02.s_are_beside) KX G ?a ?l ?c ?k fun f_are_beside fd_are_beside m_are_beside k_are_beside F_are_beside => ?_
    (case a => k_is); (case l => k_is); (case c => k_is); (case k => k_is)
    refine' Ez.def_elim (x := "faces_beside") (st := K02.s_faces_beside) KX G ?a ?l ?c ?k fun f_faces_beside fd_faces_beside m_faces_beside k_faces_beside F_faces_beside => ?_
    (case a => k_is); (case l => k_is); (case c => k_is); (case k => k_is)
    refine' Ez.def_elim (x := "faces_of_corner") (st := K02.s_faces_of_corner) KX G ?a ?l ?c ?k fun f_faces_of_corner fd_faces_of_corner m_faces_of_corner k_faces_of_corner F_faces_of_corner => ?_
    (case a => k_is); (case l => k_is); (case c => k_is); (case k => k_is)
    refine' Ez.def_elim (x := "all_edges") (st := K02.s_all_edges) KX G ?a ?l ?c ?k fun f_all_edges fd_all_edges m_all_edges k_all_edges F_all_edges => ?_
    (case a => k_is); (case l => k_is); (case c => k_is); (case k => k_is)
    refine' Ez.def_elim (x := "check_edge") (st := K02.s_check_edge) KX G ?a ?l ?c ?k fun f_check_edge fd_check_edge m_check_edge k_check_edge F_check_edge => ?_
    (case a => k_is); (case l => k_is); (case c => k_is); (case k => k_is)
    refine' Ez.def_elim (x := "faces_of_edge") (st := K02.s_faces_of_edge) KX G ?a ?l ?c ?k fun f_faces_of_edge fd_faces_of_edge m_faces_of_edge k_faces_of_edge F_faces_of_edge => ?_
    (case a => k_is); (case l => k_is); (case c => k_is); (case k => k_is)
    refine' Ez.def_elim (x := "edge_between") (st := K02.s_edge_between) KX G ?a ?l ?c ?k fun f_edge_between fd_edge_between m_edge_between k_edge_between F_edge_between => ?_
    (case a => k_is); (case l => k_is); (case c => k_is); (case k => k_is)
    refine' Ez.def_elim (x := "edge_ends") (st := K02.s_edge_ends) KX G ?a ?l ?c ?k fun f_edge_ends fd_edge_ends m_edge_ends k_edge_ends F_edge_ends => ?_
    (case a => k_is); (case l => k_is); (case c => k_is); (case k => k_is)
    refine' Ez.def_elim (x := "_law_hand") (st := K02.s__law_hand) KX G ?a ?l ?c ?k fun f__law_hand fd__law_hand m__law_hand k__law_hand F__law_hand => ?_
    (case a => k_is); (case l => k_is); (case c => k_is); (case k => k_is)
    refine' Ez.def_elim (x := "_law_mixed") (st := K02.s__law_mixed) KX G ?a ?l ?c ?k fun f__law_mixed fd__law_mixed m__law_mixed k__law_mixed F__law_mixed => ?_
    (case a => k_is); (case l => k_is); (case c => k_is); (case k => k_is)
    refine' Ez.def_elim (x := "_law_take") (st := K02.s__law_take) KX G ?a ?l ?c ?k fun f__law_take fd__law_take m__law_take k__law_take F__law_take => ?_
    (case a => k_is); (case l => k_is); (case c => k_is); (case k => k_is)
    refine' Ez.def_elim (x := "_law_axes") (st := K02.s__law_axes) KX G ?a ?l ?c ?k fun f__law_axes fd__law_axes m__law_axes k__law_axes F__law_axes => ?_
    (case a => k_is); (case l => k_is); (case c => k_is); (case k => k_is)
    refine' Ez.def_elim (x := "_law_tuples") (st := K02.s__law_tuples) KX G ?a ?l ?c ?k fun f__law_tuples fd__law_tuples m__law_tuples k__law_tuples F__law_tuples => ?_
    (case a => k_is); (case l => k_is); (case c => k_is); (case k => k_is)
    refine' Ez.def_elim (x := "_law_odd") (st := K02.s__law_odd) KX G ?a ?l ?c ?k fun f__law_odd fd__law_odd m__law_odd k__law_odd F__law_odd => ?_
    (case a => k_is); (case l => k_is); (case c => k_is); (case k => k_is)
    refine' Ez.def_elim (x := "_law_rid") (st := K02.s__law_rid) KX G ?a ?l ?c ?k fun f__law_rid fd__law_rid m__law_rid k__law_rid F__law_rid => ?_
    (case a => k_is); (case l => k_is); (case c => k_is); (case k => k_is)
    refine' Ez.def_elim (x := "_law_whole") (st := K02.s__law_whole) KX G ?a ?l ?c ?k fun f__law_whole fd__law_whole m__law_whole k__law_whole F__law_whole => ?_
    (case a => k_is); (case l => k_is); (case c => k_is); (case k => k_is)
    refine' Ez.def_elim (x := "_law_bits") (st := K02.s__law_bits) KX G ?a ?l ?c ?k fun f__law_bits fd__law_bits m__law_bits k__law_bits F__law_bits => ?_
    (case a => k_is); (case l => k_is); (case c => k_is); (case k => k_is)
    refine' Ez.def_elim (x := "_law_shaped") (st := K02.s__law_shaped) KX G ?a ?l ?c ?k fun f__law_shaped fd__law_shaped m__law_shaped k__law_shaped F__law_shaped => ?_
    (case a => k_is); (case l => k_is); (case c => k_is); (case k => k_is)
    refine' Ez.def_elim (x := "_law_box") (st := K02.s__law_box) KX G ?a ?l ?c ?k fun f__law_box fd__law_box m__law_box k__law_box F__law_box => ?_
    (case a => k_is); (case l => k_is); (case c => k_is); (case k => k_is)
    refine' Ez.def_elim (x := "_law_asked") (st := K02.s__law_asked) KX G ?a ?l ?c ?k fun f__law_asked fd__law_asked m__law_asked k__law_asked F__law_asked => ?_
    (case a => k_is); (case l => k_is); (case c => k_is); (case k => k_is)
    refine' Ez.def_elim (x := "_law_between") (st := K02.s__law_between) KX G ?a ?l ?c ?k fun f__law_between fd__law_between m__law_between k__law_between F__law_between => ?_
    (case a => k_is); (case l => k_is); (case c => k_is); (case k => k_is)
    refine' Ez.def_elim (x := "_law_plain") (st := K02.s__law_plain) KX G ?a ?l ?c ?k fun f__law_plain fd__law_plain m__law_plain k__law_plain F__law_plain => ?_
    (case a => k_is); (case l => k_is); (case c => k_is); (case k => k_is)
    refine' Ez.def_elim (x := "_law_like") (st := K02.s__law_like) KX G ?a ?l ?c ?k fun f__law_like fd__law_like m__law_like k__law_like F__law_like => ?_
    (case a => k_is); (case l => k_is); (case c => k_is); (case k => k_is)
    refine' Ez.def_elim (x := "_law_faces") (st := K02.s__law_faces) KX G ?a ?l ?c ?k fun f__law_faces fd__law_faces m__law_faces k__law_faces F__law_faces => ?_
    (case a => k_is); (case l => k_is); (case c => k_is); (case k => k_is)
    refine' Ez.def_elim (x := "_law_edges") (st := K02.s__law_edges) KX G ?a ?l ?c ?k fun f__law_edges fd__law_edges m__law_edges k__law_edges F__law_edges => ?_
    (case a => k_is); (case l => k_is); (case c => k_is); (case k => k_is)
    refine' Ez.def_elim (x := "_law_spoilt") (st := K02.s__law_spoilt) KX G ?a ?l ?c ?k fun f__law_spoilt fd__law_spoilt m__law_spoilt k__law_spoilt F__law_spoilt => ?_
    (case a => k_is); (case l => k_is); (case c => k_is); (case k => k_is)
    refine' Ez.def_elim (x := "law") (st := K02.s_law) KX G ?a ?l ?c ?k fun f_law fd_law m_law k_law F_law => ?_
    (case a => k_is); (case l => k_is); (case c => k_is); (case k => k_is)
    have e := hmg.symm.trans m_law
    cases e
    have T : K02.Txt _ mg { LONGEST_SIDE := 0, FACE_AXES := c_FACE_AXES, ParcelError := ParcelError, BadBox := BadBox, BadCorner := BadCorner, BadFace := BadFace, BadEdge := BadEdge, NoEdge := NoEdge, Box := Box, BadBox___init__ := BadBox_i, fd_BadBox___init__ := fd_BadBox, BadCorner___init__ := BadCorner_i, fd_BadCorner___init__ := fd_BadCorner, BadEdge___init__ := BadEdge_i, fd_BadEdge___init__ := fd_BadEdge, BadFace___init__ := BadFace_i, fd_BadFace___init__ := fd_BadFace, NoEdge___init__ := NoEdge_i, fd_NoEdge___init__ := fd_NoEdge, f_Box___init__ := Box_i, fd_Box___init__ := fd_Box, f_Box___eq__ := Box_q, fd_Box___eq__ := fdq_Box, f_Box_skin_area := Box_skin_area_g, fd_Box_skin_area := fdg_Box_skin_area, p_Box_skin_area := Box_skin_area_p, f_Box_corner_places := Box_corner_places_g, fd_Box_corner_places := fdg_Box_corner_places, p_Box_corner_places := Box_corner_places_p, f_is_whole := f_is_whole, fd_is_whole := fd_is_whole, f_is_sequence := f_is_sequence, fd_is_sequence := fd_is_sequence, f_check_face := f_check_face, fd_check_face := fd_check_face, f_check_corner := f_check_corner, fd_check_corner := fd_check_corner, f_corner_bit := f_corner_bit, fd_corner_bit := fd_corner_bit, f_corner_numbers := f_corner_numbers, fd_corner_numbers := fd_corner_numbers, f_face_axes := f_face_axes, fd_face_axes := fd_face_axes, f_are_beside := f_are_beside, fd_are_beside := fd_are_beside, f_faces_beside := f_faces_beside, fd_faces_beside := fd_faces_beside, f_faces_of_corner := f_faces_of_corner, fd_faces_of_corner := fd_faces_of_corner, f_all_edges := f_all_edges, fd_all_edges := fd_all_edges, f_check_edge := f_check_edge, fd_check_edge := fd_check_edge, f_faces_of_edge := f_faces_of_edge, fd_faces_of_edge := fd_faces_of_edge, f_edge_between := f_edge_between, fd_edge_between := fd_edge_between, f_edge_ends := f_edge_ends, fd_edge_ends := fd_edge_ends, f__law_hand := f__law_hand, fd__law_hand := fd__law_hand, f__law_mixed := f__law_mixed, fd__law_mixed := fd__law_mixed, f__law_take := f__law_take, fd__law_take := fd__law_take, f__law_axes := f__law_axes, fd__law_axes := fd__law_axes, f__law_tuples := f__law_tuples, fd__law_tuples := fd__law_tuples, f__law_odd := f__law_odd, fd__law_odd := fd__law_odd, f__law_rid := f__law_rid, fd__law_rid := fd__law_rid, f__law_whole := f__law_whole, fd__law_whole := fd__law_whole, f__law_bits := f__law_bits, fd__law_bits := fd__law_bits, f__law_shaped := f__law_shaped, fd__law_shaped := fd__law_shaped, f__law_box := f__law_box, fd__law_box := fd__law_box, f__law_asked := f__law_asked, fd__law_asked := fd__law_asked, f__law_between := f__law_between, fd__law_between := fd__law_between, f__law_plain := f__law_plain, fd__law_plain := fd__law_plain, f__law_like := f__law_like, fd__law_like := fd__law_like, f__law_faces := f__law_faces, fd__law_faces := fd__law_faces, f__law_edges := f__law_edges, fd__law_edges := fd__law_edges, f__law_spoilt := f__law_spoilt, fd__law_spoilt := fd__law_spoilt, f_law := fa, fd_law := fd_law } := { b_tuple := b_tuple, b_isinstance := b_isinstance, b_range := b_range, b_list := b_list, b_bool := b_bool, b_enumerate := b_enumerate, b_min := b_min, b_max := b_max, b_int := b_int, b_len := b_len, b_abs := b_abs, b_repr := b_repr, b_sorted := b_sorted, b_sum := b_sum, m_LONGEST_SIDE := m_LONGEST_SIDE, m_FACE_AXES := m_FACE_AXES, i_FACE_AXES := fun p G => i_FACE_AXES _ rfl G, m_ParcelError := m_ParcelError, m_BadBox := m_BadBox, m_BadCorner := m_BadCorner, m_BadFace := m_BadFace, m_BadEdge := m_BadEdge, m_NoEdge := m_NoEdge, m_Box := m_Box, o_BadBox := o_BadBox, i_BadBox := i_BadBox, t_BadBox := t_BadBox, F_BadBox___init__ := F_BadBox, bi_BadBox := K02.zb_BadBox F_BadBox, x_BadBox := x_BadBox, xn_BadBox_index := xn_BadBox_index, o_BadCorner := o_BadCorner, i_BadCorner := i_BadCorner, t_BadCorner := t_BadCorner, F_BadCorner___init__ := F_BadCorner, bi_BadCorner := K02.zb_BadCorner F_BadCorner, x_BadCorner := x_BadCorner, xn_BadCorner_corner := xn_BadCorner_corner, o_BadEdge := o_BadEdge, i_BadEdge := i_BadEdge, t_BadEdge := t_BadEdge, F_BadEdge___init__ := F_BadEdge, bi_BadEdge := K02.zb_BadEdge F_BadEdge, x_BadEdge := x_BadEdge, xn_BadEdge_edge := xn_BadEdge_edge, o_BadFace := o_BadFace, i_BadFace := i_BadFace, t_BadFace := t_BadFace, F_BadFace___init__ := F_BadFace, bi_BadFace := K02.zb_BadFace F_BadFace, x_BadFace := x_BadFace, xn_BadFace_face := xn_BadFace_face, o_NoEdge := o_NoEdge, i_NoEdge := i_NoEdge, t_NoEdge := t_NoEdge, F_NoEdge___init__ := F_NoEdge, bi_NoEdge := K02.zb_NoEdge F_NoEdge, x_NoEdge := x_NoEdge, xn_NoEdge_face := xn_NoEdge_face, xn_NoEdge_beside := xn_NoEdge_beside, mk_Box := mk_Box, cl_Box := cl_Box, F_Box___init__ := F_Box, b_Box___init__ := K02.zb_Box___init__ F_Box, na_Box_sides := na_Box_sides, oe_Box := oe_Box, F_Box___eq__ := Fq_Box, b_Box___eq__ := K02.zb_Box___eq__ Fq_Box, pr_Box_skin_area := pr_Box_skin_area, F_Box_skin_area := Fp_Box_skin_area, b_Box_skin_area := K02.zb_Box_skin_area Fp_Box_skin_area, pr_Box_corner_places := pr_Box_corner_places, F_Box_corner_places := Fp_Box_corner_places, b_Box_corner_places := K02.zb_Box_corner_places Fp_Box_corner_places, it_Box := it_Box, in_Box := in_Box, io_Box_Box := io_Box_Box, e_BadBox_BadBox := e_BadBox_BadBox, e_BadBox_BadCorner := e_BadBox_BadCorner, e_BadBox_BadEdge := e_BadBox_BadEdge, e_BadBox_BadFace := e_BadBox_BadFace, e_BadBox_NoEdge := e_BadBox_NoEdge, e_BadBox_ParcelError := e_BadBox_ParcelError, e_BadCorner_BadBox := e_BadCorner_BadBox, e_BadCorner_BadCorner := e_BadCorner_BadCorner, e_BadCorner_BadEdge := e_BadCorner_BadEdge, e_BadCorner_BadFace := e_BadCorner_BadFace, e_BadCorner_NoEdge := e_BadCorner_NoEdge, e_BadCorner_ParcelError := e_BadCorner_ParcelError, e_BadEdge_BadBox := e_BadEdge_BadBox, e_BadEdge_BadCorner := e_BadEdge_BadCorner, e_BadEdge_BadEdge := e_BadEdge_BadEdge, e_BadEdge_BadFace := e_BadEdge_BadFace, e_BadEdge_NoEdge := e_BadEdge_NoEdge, e_BadEdge_ParcelError := e_BadEdge_ParcelError, e_BadFace_BadBox := e_BadFace_BadBox, e_BadFace_BadCorner := e_BadFace_BadCorner, e_BadFace_BadEdge := e_BadFace_BadEdge, e_BadFace_BadFace := e_BadFace_BadFace, e_BadFace_NoEdge := e_BadFace_NoEdge, e_BadFace_ParcelError := e_BadFace_ParcelError, e_NoEdge_BadBox := e_NoEdge_BadBox, e_NoEdge_BadCorner := e_NoEdge_BadCorner, e_NoEdge_BadEdge := e_NoEdge_BadEdge, e_NoEdge_BadFace := e_NoEdge_BadFace, e_NoEdge_NoEdge := e_NoEdge_NoEdge, e_NoEdge_ParcelError := e_NoEdge_ParcelError, m_is_whole := m_is_whole, k_is_whole := k_is_whole, F_is_whole := F_is_whole, b_is_sequence := K02.zb_is_sequence F_is_sequence, m_is_sequence := m_is_sequence, k_is_sequence := k_is_sequence, F_is_sequence := F_is_sequence, b_check_face := K02.zb_check_face F_check_face, m_check_face := m_check_face, k_check_face := k_check_face, F_check_face := F_check_face, b_check_corner := K02.zb_check_corner F_check_corner, m_check_corner := m_check_corner, k_check_corner := k_check_corner, F_check_corner := F_check_corner, b_corner_bit := K02.zb_corner_bit F_corner_bit, m_corner_bit := m_corner_bit, k_corner_bit := k_corner_bit, F_corner_bit := F_corner_bit, b_corner_numbers := K02.zb_corner_numbers F_corner_numbers, m_corner_numbers := m_corner_numbers, k_corner_numbers := k_corner_numbers, F_corner_numbers := F_corner_numbers, b_face_axes := K02.zb_face_axes F_face_axes, m_face_axes := m_face_axes, k_face_axes := k_face_axes, F_face_axes := F_face_axes, b_are_beside := K02.zb_are_beside F_are_beside, m_are_beside := m_are_beside, k_are_beside := k_are_beside, F_are_beside := F_are_beside, b_faces_beside := K02.zb_faces_beside F_faces_beside, m_faces_beside := m_faces_beside, k_faces_beside := k_faces_beside, F_faces_beside := F_faces_beside, b_faces_of_corner := K02.zb_faces_of_corner F_faces_of_corner, m_faces_of_corner := m_faces_of_corner, k_faces_of_corner := k_faces_of_corner, F_faces_of_corner := F_faces_of_corner, b_all_edges := K02.zb_all_edges F_all_edges, m_all_edges := m_all_edges, k_all_edges := k_all_edges, F_all_edges := F_all_edges, b_check_edge := K02.zb_check_edge F_check_edge, m_check_edge := m_check_edge, k_check_edge := k_check_edge, F_check_edge := F_check_edge, b_faces_of_edge := K02.zb_faces_of_edge F_faces_of_edge, m_faces_of_edge := m_faces_of_edge, k_faces_of_edge := k_faces_of_edge, F_faces_of_edge := F_faces_of_edge, b_edge_between := K02.zb_edge_between F_edge_between, m_edge_between := m_edge_between, k_edge_between := k_edge_between, F_edge_between := F_edge_between, b_edge_ends := K02.zb_edge_ends F_edge_ends, m_edge_ends := m_edge_ends, k_edge_ends := k_edge_ends, F_edge_ends := F_edge_ends, b__law_hand := K02.zb__law_hand F__law_hand, m__law_hand := m__law_hand, k__law_hand := k__law_hand, F__law_hand := F__law_hand, b__law_mixed := K02.zb__law_mixed F__law_mixed, m__law_mixed := m__law_mixed, k__law_mixed := k__law_mixed, F__law_mixed := F__law_mixed, b__law_take := K02.zb__law_take F__law_take, m__law_take := m__law_take, k__law_take := k__law_take, F__law_take := F__law_take, b__law_axes := K02.zb__law_axes F__law_axes, m__law_axes := m__law_axes, k__law_axes := k__law_axes, F__law_axes := F__law_axes, b__law_tuples := K02.zb__law_tuples F__law_tuples, m__law_tuples := m__law_tuples, k__law_tuples := k__law_tuples, F__law_tuples := F__law_tuples, b__law_odd := K02.zb__law_odd F__law_odd, m__law_odd := m__law_odd, k__law_odd := k__law_odd, F__law_odd := F__law_odd, b__law_rid := K02.zb__law_rid F__law_rid, m__law_rid := m__law_rid, k__law_rid := k__law_rid, F__law_rid := F__law_rid, b__law_whole := K02.zb__law_whole F__law_whole, m__law_whole := m__law_whole, k__law_whole := k__law_whole, F__law_whole := F__law_whole, b__law_bits := K02.zb__law_bits F__law_bits, m__law_bits := m__law_bits, k__law_bits := k__law_bits, F__law_bits := F__law_bits, b__law_shaped := K02.zb__law_shaped F__law_shaped, m__law_shaped := m__law_shaped, k__law_shaped := k__law_shaped, F__law_shaped := F__law_shaped, b__law_box := K02.zb__law_box F__law_box, m__law_box := m__law_box, k__law_box := k__law_box, F__law_box := F__law_box, b__law_asked := K02.zb__law_asked F__law_asked, m__law_asked := m__law_asked, k__law_asked := k__law_asked, F__law_asked := F__law_asked, b__law_between := K02.zb__law_between F__law_between, m__law_between := m__law_between, k__law_between := k__law_between, F__law_between := F__law_between, b__law_plain := K02.zb__law_plain F__law_plain, m__law_plain := m__law_plain, k__law_plain := k__law_plain, F__law_plain := F__law_plain, b__law_like := K02.zb__law_like F__law_like, m__law_like := m__law_like, k__law_like := k__law_like, F__law_like := F__law_like, b__law_faces := K02.zb__law_faces F__law_faces, m__law_faces := m__law_faces, k__law_faces := k__law_faces, F__law_faces := F__law_faces, b__law_edges := K02.zb__law_edges F__law_edges, m__law_edges := m__law_edges, k__law_edges := k__law_edges, F__law_edges := F__law_edges, b__law_spoilt := K02.zb__law_spoilt F__law_spoilt, m__law_spoilt := m__law_spoilt, k__law_spoilt := k__law_spoilt, F__law_spoilt := F__law_spoilt, b_law := K02.zb_law F_law, m_law := m_law, k_law := k_law, F_law := F_law, bd_is_whole_3 := K02.zb_is_whole_3 F_is_whole }
    refine ⟨fd_law, Ez.law_binds F_law fun _ _ _ _ _ _ _ => rfl, fun base _ _ => ?_⟩
    have Z := K02.ok_law (Pg := (OpenLaw.prog PySem.Challenge.rw_tautparcel_k02_whole_boxes_faces_and_edg)) (w := w) (base := base) T (K02.all_ok T 12) K02.math
    exact Ez.FnG.law (K1 := Ez.kt0 _) (K2 := Ez.kp (K02.kt _ _) 0) (by rfl) Z
