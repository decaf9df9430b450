import PyProof.Rows.All
import Wide.All
import OpenK.AllK
import Wide.FinOn
import HandS.ForMost
import HandS.ForExc
import HandS.Walk
import HandS.Defaults
import HandS.Wide
import HandS.WideBits
import HandS.Conv
import HandS.TupAny
import HandS.TupMul
import HandS.Text
import HandS.Dict
import HandS.IsInst
import HandS.Deep
import HandS.Flow
import HandS.TupLe
import HandS.Comp
import KE.GoesEnumKw
import HandS.More
import HandS.Small
import HandS.EndBits
import KE.BitLaws
import HandS.TryOnly
import HandS.ExcValue
import HandS.ExcField
import KE.KExcIs
import PySem.Challenge.RW_letterbench_k01_numbers_in_bytes
set_option Elab.async false
set_option linter.all false
set_option maxRecDepth 100000
section
/-! Mi, first part: values as data, cells that change, how both lie in the abstract heap. -/
namespace Mi
open PySem PySem.Spec PyProof.Rows L2

inductive D where
  | non
  | bl (b : Bool)
  | int (i : Int)
  | str (x : Str)
  | ty (n : String)
  | adr (a : Addr)
  | ref (l : Nat)
  | tup (ds : List D)
  | lst (ds : List D)
  | dct (ks : List Key) (ds : List D)
  /-- a def of the text, by its name -/
  | fn (n : Str)
  /-- an exception that was caught: its class's name; its own fields, if it has a dict -/
  | exo (c : Str) (hd : Bool) (ks : List Str) (ds : List D)

/-- the class of this name, of the text or built in -/
def CN (K : PySem.W.Frag) (c : Str) (cv : Value) : Prop := PySem.W.nsIn K mainGlobals c = some (some cv) ∨ (PySem.W.nsIn K mainGlobals c = some none ∧ bootBuiltins c = some cv)
theorem CN.uniq {K : PySem.W.Frag} {c : Str} {u v : Value} (h : CN K c u) (g : CN K c v) : u = v := by
  rcases h with h | ⟨h, h2⟩ <;> rcases g with g | ⟨g, g2⟩
  · rw [h] at g; exact Option.some.inj (Option.some.inj g)
  · rw [h] at g; cases g
  · rw [h] at g; cases g
  · rw [h2] at g2; exact Option.some.inj g2
/-- at a: an exception of the class cv, its dict at d -/
def ExV (cv : Value) (d : Option Addr) (a : Addr) : HO := .ext fun h => ∃ (oe : Obj) (vs : Array Value), h.get? a = some oe ∧ Zc cv d oe ∧ oe.data = .fields vs

/-- a cell: a list, a dict, an instance that may change; gone: told away as a plain value -/
inductive MO where
  | lst (ds : List D)
  | dct (kvs : List (Key × D))
  | ins (C : Str) (fs : List (Str × D))
  | gone
abbrev MH := List MO
/-- where the cells lie; c: by number; h: lists that are being made out of sight -/
structure Rho where
  c : List (Option Addr)
  h : List Addr

/-- a list read, not a cell's -/
def LsV (K : PySem.W.Frag) (ρ : Rho) (H : Hp) (a : Addr) (xs : List V) : Prop := (Rd H a (.lst xs) ∧ some a ∉ ρ.c ∧ a ∉ ρ.h) ∨ SqL K (fun _ => none) a xs
mutual
def Den (K : PySem.W.Frag) (ρ : Rho) (H : Hp) : D → V → Prop
  | .non, v => v = .non
  | .bl b, v => v = .bl b
  | .int i, v => v = .int i
  | .str x, v => v = .str x
  | .ty n, v => v = .ty n
  | .adr a, v => v = .ref a
  | .ref l, v => ∃ a o, v = .ref a ∧ ρ.c[l]? = some o ∧ ∀ b, o = some b → b = a
  | .tup ds, v => ∃ a xs, v = .ref a ∧ SqT K H a xs ∧ Dens K ρ H ds xs
  | .lst ds, v => ∃ a xs, v = .ref a ∧ LsV K ρ H a xs ∧ Dens K ρ H ds xs
  | .dct ks ds, v => ∃ a kvs, v = .ref a ∧ H a = some (.dK kvs) ∧ some a ∉ ρ.c ∧ kvs.map (·.1) = ks ∧ Dens K ρ H ds (kvs.map (·.2))
  | .fn n, v => ∃ a, PySem.W.nsIn K mainGlobals n = some (some (.ref a)) ∧ v = .ref a
  | .exo c hd ks ds, v => ∃ a cv d, v = .ref a ∧ CN K c cv ∧ H a = some (ExV cv d a) ∧ (hd = false ∧ d = none ∨ hd = true ∧ ∃ dd gs, d = some dd ∧ H dd = some (.xd gs) ∧ gs.map (·.1) = ks ∧ Dens K ρ H ds (gs.map (·.2)))
def Dens (K : PySem.W.Frag) (ρ : Rho) (H : Hp) : List D → List V → Prop
  | [], vs => vs = []
  | d :: ds, vs => ∃ v r, vs = v :: r ∧ Den K ρ H d v ∧ Dens K ρ H ds r
end

def DenP {κ : Type} (K : PySem.W.Frag) (ρ : Rho) (H : Hp) : List (κ × D) → List (κ × V) → Prop := Paired fun p q => p.1 = q.1 ∧ Den K ρ H p.2 q.2

def ObjD (K : PySem.W.Frag) (ρ : Rho) (H : Hp) (l : Nat) : MO → Prop
  | .lst ds => ∃ a xs, ρ.c[l]? = some (some a) ∧ H a = some (.lst xs) ∧ Dens K ρ H ds xs
  | .dct kvs => ∃ a ks, ρ.c[l]? = some (some a) ∧ H a = some (.dK ks) ∧ DenP K ρ H kvs ks
  | .ins C fs => ∃ a Ca dx gs, ρ.c[l]? = some (some a) ∧ CN K C (.ref Ca) ∧ H a = some (.ins Ca dx gs) ∧ DenP K ρ H fs gs
  | .gone => ρ.c[l]? = some none

structure Rel (K : PySem.W.Frag) (ρ : Rho) (M : MH) (H : Hp) : Prop where
  len : ρ.c.length = M.length
  hid : ∀ a ∈ ρ.h, some a ∉ ρ.c ∧ ∃ xs, H a = some (.lst xs)
  inj : ∀ (i j : Nat) (a : Addr), ρ.c[i]? = some (some a) → ρ.c[j]? = some (some a) → i = j
  obj : ∀ (l : Nat) (o : MO), M[l]? = some o → ObjD K ρ H l o

/-- what may become of the heap: cells change, cells are told away, new ones come -/
structure Stp (ρ : Rho) (H : Hp) (ρ' : Rho) (H' : Hp) : Prop where
  pre : ∀ (l : Nat) (o : Option Addr), ρ.c[l]? = some o → ρ'.c[l]? = some o ∨ ρ'.c[l]? = some none
  new : ∀ a : Addr, some a ∈ ρ'.c → some a ∈ ρ.c ∨ H a = none
  keep : ∀ (a : Addr) (o : HO), H a = some o → some a ∉ ρ.c → H' a = some o
  hid : ρ'.h = ρ.h

theorem mem_of_get {ρ : Rho} {l : Nat} {a : Addr} (h : ρ.c[l]? = some (some a)) : some a ∈ ρ.c := List.mem_of_getElem? h
theorem Rel.kind {K : PySem.W.Frag} {ρ : Rho} {M : MH} {H : Hp} (R : Rel K ρ M H) {a : Addr} (h : some a ∈ ρ.c) : (∃ xs, H a = some (.lst xs)) ∨ (∃ ks, H a = some (.dK ks)) ∨ ∃ C dx gs, H a = some (.ins C dx gs) := by
  obtain ⟨l, hl⟩ := List.getElem?_of_mem h
  have hm : l < M.length := by
    rw [← R.len]
    exact (List.getElem?_eq_some_iff.mp hl).1
  have q := R.obj l M[l] (List.getElem?_eq_getElem hm)
  cases e : M[l] with
  | lst ds =>
    rw [e] at q
    obtain ⟨b, xs, h1, h2, _⟩ := q
    rw [hl] at h1; cases h1
    exact .inl ⟨xs, h2⟩
  | dct kvs =>
    rw [e] at q
    obtain ⟨b, xs, h1, h2, _⟩ := q
    rw [hl] at h1; cases h1
    exact .inr (.inl ⟨xs, h2⟩)
  | ins C fs =>
    rw [e] at q
    obtain ⟨b, Ca, dx, gs, h1, _, h2, _⟩ := q
    rw [hl] at h1; cases h1
    exact .inr (.inr ⟨Ca, dx, gs, h2⟩)
  | gone =>
    rw [e] at q
    have q' : ρ.c[l]? = some none := q
    rw [hl] at q'; cases q'
theorem Rel.freshH {K : PySem.W.Frag} {ρ : Rho} {M : MH} {H : Hp} (R : Rel K ρ M H) {p : Addr} (hp : H p = none) : p ∉ ρ.h := fun m => by
  obtain ⟨_, xs, e⟩ := R.hid p m
  rw [hp] at e; cases e
theorem Rel.notTup {K : PySem.W.Frag} {ρ : Rho} {M : MH} {H : Hp} (R : Rel K ρ M H) {a : Addr} {xs : List V} (h : H a = some (.tup xs)) : some a ∉ ρ.c := fun m => by
  rcases R.kind m with ⟨_, e⟩ | ⟨_, e⟩ | ⟨_, _, _, e⟩ <;> (rw [h] at e; cases e)
theorem Rel.notFrz {K : PySem.W.Frag} {ρ : Rho} {M : MH} {H : Hp} (R : Rel K ρ M H) {a : Addr} {o : Obj} {u : HO} (h : H a = some (.frz o u)) : some a ∉ ρ.c := fun m => by
  rcases R.kind m with ⟨_, e⟩ | ⟨_, e⟩ | ⟨_, _, _, e⟩ <;> (rw [h] at e; cases e)
theorem Rel.notExt {K : PySem.W.Frag} {ρ : Rho} {M : MH} {H : Hp} (R : Rel K ρ M H) {a : Addr} {φ : Heap → Prop} (h : H a = some (.ext φ)) : some a ∉ ρ.c := fun m => by
  rcases R.kind m with ⟨_, e⟩ | ⟨_, e⟩ | ⟨_, _, _, e⟩ <;> (rw [h] at e; cases e)
theorem Rel.notXd {K : PySem.W.Frag} {ρ : Rho} {M : MH} {H : Hp} (R : Rel K ρ M H) {a : Addr} {gs : List (Str × V)} (h : H a = some (.xd gs)) : some a ∉ ρ.c := fun m => by
  rcases R.kind m with ⟨_, e⟩ | ⟨_, e⟩ | ⟨_, _, _, e⟩ <;> (rw [h] at e; cases e)
theorem Stp.refl {K : PySem.W.Frag} {ρ : Rho} {M : MH} {H : Hp} : Stp ρ H ρ H := ⟨fun _ _ h => .inl h, fun _ h => .inl h, fun _ _ h _ => h, rfl⟩
theorem Stp.notin {ρ ρ' : Rho} {H H' : Hp} (S : Stp ρ H ρ' H') {a : Addr} {o : HO} (h : H a = some o) (n : some a ∉ ρ.c) : some a ∉ ρ'.c := fun m => by
  rcases S.new a m with z | z
  · exact n z
  · rw [h] at z; cases z
theorem Stp.trans {ρ ρ1 ρ2 : Rho} {H H1 H2 : Hp} (a : Stp ρ H ρ1 H1) (b : Stp ρ1 H1 ρ2 H2) : Stp ρ H ρ2 H2 where
  pre := fun l o h => by
    rcases a.pre l o h with q | q
    · exact b.pre l o q
    · rcases b.pre l none q with z | z <;> exact .inr z
  new := fun x m => by
    rcases b.new x m with q | q
    · exact a.new x q
    · cases e : H x with
      | none => exact .inr rfl
      | some o =>
        by_cases hx : some x ∈ ρ.c
        · exact .inl hx
        · rw [a.keep x o e hx] at q; cases q
  keep := fun x o h n => b.keep x o (a.keep x o h n) (a.notin h n)
  hid := b.hid.trans a.hid

section
variable {K : PySem.W.Frag} {ρ ρ' : Rho} {M M' : MH} {H H' : Hp}
theorem SqT.step (R : Rel K ρ M H) (S : Stp ρ H ρ' H') {a : Addr} {xs : List V} (h : SqT K H a xs) : SqT K H' a xs := by
  rcases h with (h | ⟨o, h⟩) | h
  · exact .inl (.inl (S.keep a _ h (R.notTup h)))
  · exact .inl (.inr ⟨o, S.keep a _ h (R.notFrz h)⟩)
  · exact .inr h
theorem LsV.step (S : Stp ρ H ρ' H') {a : Addr} {xs : List V} (h : LsV K ρ H a xs) : LsV K ρ' H' a xs := by
  rcases h with ⟨h | ⟨o, h⟩, n, n2⟩ | h
  · exact .inl ⟨.inl (S.keep a _ h n), S.notin h n, by rw [S.hid]; exact n2⟩
  · exact .inl ⟨.inr ⟨o, S.keep a _ h n⟩, S.notin h n, by rw [S.hid]; exact n2⟩
  · exact .inr h
theorem LsV.sq {a : Addr} {xs : List V} (h : LsV K ρ H a xs) : SqL K H a xs := by
  rcases h with ⟨h, _⟩ | h
  · exact .inl h
  · rcases h with (h | ⟨o, h⟩) | h
    · cases h
    · cases h
    · exact .inr h
mutual
theorem Den.step (R : Rel K ρ M H) (S : Stp ρ H ρ' H') : ∀ (d : D) (v : V), Den K ρ H d v → Den K ρ' H' d v
  | .non, v, h => by unfold Den at h ⊢; exact h
  | .bl b, v, h => by unfold Den at h ⊢; exact h
  | .int i, v, h => by unfold Den at h ⊢; exact h
  | .str x, v, h => by unfold Den at h ⊢; exact h
  | .ty n, v, h => by unfold Den at h ⊢; exact h
  | .adr a, v, h => by unfold Den at h ⊢; exact h
  | .ref l, v, h => by
    unfold Den at h ⊢
    obtain ⟨a, o, e, h1, h2⟩ := h
    rcases S.pre l o h1 with q | q
    · exact ⟨a, o, e, q, h2⟩
    · exact ⟨a, none, e, q, fun _ z => nomatch z⟩
  | .tup ds, v, h => by
    unfold Den at h ⊢
    obtain ⟨a, xs, e, h1, h2⟩ := h
    exact ⟨a, xs, e, SqT.step R S h1, Dens.step R S ds xs h2⟩
  | .lst ds, v, h => by
    unfold Den at h ⊢
    obtain ⟨a, xs, e, h1, h2⟩ := h
    exact ⟨a, xs, e, h1.step S, Dens.step R S ds xs h2⟩
  | .dct ks ds, v, h => by
    unfold Den at h ⊢
    obtain ⟨a, kvs, e, h1, n, h2, h3⟩ := h
    exact ⟨a, kvs, e, S.keep a _ h1 n, S.notin h1 n, h2, Dens.step R S ds _ h3⟩
  | .fn n, v, h => by unfold Den at h ⊢; exact h
  | .exo c hd ks ds, v, h => by
    unfold Den at h ⊢
    obtain ⟨a, cv, d, e, cn, h1, h2⟩ := h
    refine ⟨a, cv, d, e, cn, S.keep a _ h1 (R.notExt h1), ?_⟩
    rcases h2 with h2 | ⟨z, dd, gs, e2, h3, h4, h5⟩
    · exact .inl h2
    · exact .inr ⟨z, dd, gs, e2, S.keep dd _ h3 (R.notXd h3), h4, Dens.step R S ds _ h5⟩
theorem Dens.step (R : Rel K ρ M H) (S : Stp ρ H ρ' H') : ∀ (ds : List D) (vs : List V), Dens K ρ H ds vs → Dens K ρ' H' ds vs
  | [], vs, h => by unfold Dens at h ⊢; exact h
  | d :: ds, vs, h => by
    unfold Dens at h ⊢
    obtain ⟨v, r, e, h1, h2⟩ := h
    exact ⟨v, r, e, Den.step R S d v h1, Dens.step R S ds r h2⟩
end
theorem DenP.step {κ : Type} (R : Rel K ρ M H) (S : Stp ρ H ρ' H') {ps : List (κ × D)} {qs : List (κ × V)} (h : DenP K ρ H ps qs) : DenP K ρ' H' ps qs := Paired.mapP h fun p q z => ⟨z.1, Den.step R S _ _ z.2⟩

theorem Rel.fresh (R : Rel K ρ M H) {p : Addr} (hp : H p = none) : some p ∉ ρ.c := fun m => by
  rcases R.kind m with ⟨_, e⟩ | ⟨_, e⟩ | ⟨_, _, _, e⟩ <;> (rw [hp] at e; cases e)
/-- what keeps every value -/
structure Tr (ρ : Rho) (H : Hp) (ρ' : Rho) (H' : Hp) : Prop where
  pre : ∀ (l : Nat) (o : Option Addr), ρ.c[l]? = some o → ρ'.c[l]? = some o ∨ ρ'.c[l]? = some none
  lst : ∀ (a : Addr) (xs : List V), Rd H a (.lst xs) → some a ∉ ρ.c → a ∉ ρ.h → Rd H' a (.lst xs) ∧ some a ∉ ρ'.c ∧ a ∉ ρ'.h
  tup : ∀ (a : Addr) (xs : List V), Rd H a (.tup xs) → Rd H' a (.tup xs)
  dct : ∀ (a : Addr) (kvs : List (Key × V)), H a = some (.dK kvs) → some a ∉ ρ.c → H' a = some (.dK kvs) ∧ some a ∉ ρ'.c
  ext : ∀ (a : Addr) (φ : Heap → Prop), H a = some (.ext φ) → H' a = some (.ext φ)
  xd : ∀ (a : Addr) (gs : List (Str × V)), H a = some (.xd gs) → H' a = some (.xd gs)
theorem Tr.refl : Tr ρ H ρ H := ⟨fun _ _ h => .inl h, fun _ _ h n m => ⟨h, n, m⟩, fun _ _ h => h, fun _ _ h n => ⟨h, n⟩, fun _ _ h => h, fun _ _ h => h⟩
theorem Tr.trans {ρ1 ρ2 : Rho} {H1 H2 : Hp} (a : Tr ρ H ρ1 H1) (b : Tr ρ1 H1 ρ2 H2) : Tr ρ H ρ2 H2 where
  pre := fun l o h => by
    rcases a.pre l o h with q | q
    · exact b.pre l o q
    · rcases b.pre l none q with z | z <;> exact .inr z
  lst := fun x xs h n m => let ⟨h1, n1, m1⟩ := a.lst x xs h n m; b.lst x xs h1 n1 m1
  tup := fun x xs h => b.tup x xs (a.tup x xs h)
  dct := fun x ks h n => let ⟨h1, n1⟩ := a.dct x ks h n; b.dct x ks h1 n1
  ext := fun x φ h => b.ext x φ (a.ext x φ h)
  xd := fun x gs h => b.xd x gs (a.xd x gs h)
theorem Stp.tr (R : Rel K ρ M H) (S : Stp ρ H ρ' H') : Tr ρ H ρ' H' where
  pre := S.pre
  lst := fun a xs h n m => by
    rcases h with h | ⟨o, h⟩
    · exact ⟨.inl (S.keep a _ h n), S.notin h n, by rw [S.hid]; exact m⟩
    · exact ⟨.inr ⟨o, S.keep a _ h n⟩, S.notin h n, by rw [S.hid]; exact m⟩
  tup := fun a xs h => by
    rcases h with h | ⟨o, h⟩
    · exact .inl (S.keep a _ h (R.notTup h))
    · exact .inr ⟨o, S.keep a _ h (R.notFrz h)⟩
  dct := fun a ks h n => ⟨S.keep a _ h n, S.notin h n⟩
  ext := fun a φ h => S.keep a _ h (R.notExt h)
  xd := fun a gs h => S.keep a _ h (R.notXd h)
theorem SqT.tr (T : Tr ρ H ρ' H') {a : Addr} {xs : List V} (h : SqT K H a xs) : SqT K H' a xs := by
  rcases h with h | h
  · exact .inl (T.tup a xs h)
  · exact .inr h
theorem LsV.tr (T : Tr ρ H ρ' H') {a : Addr} {xs : List V} (h : LsV K ρ H a xs) : LsV K ρ' H' a xs := by
  rcases h with ⟨h, n, m⟩ | h
  · exact .inl (T.lst a xs h n m)
  · exact .inr h
mutual
theorem Den.tr (T : Tr ρ H ρ' H') : ∀ (d : D) (v : V), Den K ρ H d v → Den K ρ' H' d v
  | .non, v, h => by unfold Den at h ⊢; exact h
  | .bl b, v, h => by unfold Den at h ⊢; exact h
  | .int i, v, h => by unfold Den at h ⊢; exact h
  | .str x, v, h => by unfold Den at h ⊢; exact h
  | .ty n, v, h => by unfold Den at h ⊢; exact h
  | .adr a, v, h => by unfold Den at h ⊢; exact h
  | .ref l, v, h => by
    unfold Den at h ⊢
    obtain ⟨a, o, e, h1, h2⟩ := h
    rcases T.pre l o h1 with q | q
    · exact ⟨a, o, e, q, h2⟩
    · exact ⟨a, none, e, q, fun _ z => nomatch z⟩
  | .tup ds, v, h => by
    unfold Den at h ⊢
    obtain ⟨a, xs, e, h1, h2⟩ := h
    exact ⟨a, xs, e, SqT.tr T h1, Dens.tr T ds xs h2⟩
  | .lst ds, v, h => by
    unfold Den at h ⊢
    obtain ⟨a, xs, e, h1, h2⟩ := h
    exact ⟨a, xs, e, h1.tr T, Dens.tr T ds xs h2⟩
  | .dct ks ds, v, h => by
    unfold Den at h ⊢
    obtain ⟨a, kvs, e, h1, n, h2, h3⟩ := h
    obtain ⟨q1, q2⟩ := T.dct a kvs h1 n
    exact ⟨a, kvs, e, q1, q2, h2, Dens.tr T ds _ h3⟩
  | .fn n, v, h => by unfold Den at h ⊢; exact h
  | .exo c hd ks ds, v, h => by
    unfold Den at h ⊢
    obtain ⟨a, cv, d, e, cn, h1, h2⟩ := h
    refine ⟨a, cv, d, e, cn, T.ext a _ h1, ?_⟩
    rcases h2 with h2 | ⟨z, dd, gs, e2, h3, h4, h5⟩
    · exact .inl h2
    · exact .inr ⟨z, dd, gs, e2, T.xd dd _ h3, h4, Dens.tr T ds _ h5⟩
theorem Dens.tr (T : Tr ρ H ρ' H') : ∀ (ds : List D) (vs : List V), Dens K ρ H ds vs → Dens K ρ' H' ds vs
  | [], vs, h => by unfold Dens at h ⊢; exact h
  | d :: ds, vs, h => by
    unfold Dens at h ⊢
    obtain ⟨v, r, e, h1, h2⟩ := h
    exact ⟨v, r, e, Den.tr T d v h1, Dens.tr T ds r h2⟩
end
theorem DenP.tr {κ : Type} (T : Tr ρ H ρ' H') {ps : List (κ × D)} {qs : List (κ × V)} (h : DenP K ρ H ps qs) : DenP K ρ' H' ps qs := Paired.mapP h fun p q z => ⟨z.1, Den.tr T _ _ z.2⟩
theorem ObjD.tr (T : Tr ρ H ρ' H') (e : ρ'.c = ρ.c) (k : ∀ a o, some a ∈ ρ.c → H a = some o → H' a = some o) {l : Nat} {o : MO} (q : ObjD K ρ H l o) : ObjD K ρ' H' l o := by
  cases o with
  | lst ds =>
    obtain ⟨a, xs, h1, h2, h3⟩ := q
    exact ⟨a, xs, by rw [e]; exact h1, k a _ (mem_of_get h1) h2, Dens.tr T _ _ h3⟩
  | dct kvs =>
    obtain ⟨a, xs, h1, h2, h3⟩ := q
    exact ⟨a, xs, by rw [e]; exact h1, k a _ (mem_of_get h1) h2, DenP.tr T h3⟩
  | ins C fs =>
    obtain ⟨a, Ca, dx, gs, h1, cn, h2, h3⟩ := q
    exact ⟨a, Ca, dx, gs, by rw [e]; exact h1, cn, k a _ (mem_of_get h1) h2, DenP.tr T h3⟩
  | gone =>
    show ρ'.c[l]? = some none
    rw [e]
    exact q
/-- the same cells, other things out of sight -/
theorem Rel.tr (R : Rel K ρ M H) (T : Tr ρ H ρ' H') (e : ρ'.c = ρ.c) (k : ∀ a o, some a ∈ ρ.c → H a = some o → H' a = some o) (hid : ∀ a ∈ ρ'.h, some a ∉ ρ'.c ∧ ∃ xs, H' a = some (.lst xs)) : Rel K ρ' M H' where
  len := by rw [e]; exact R.len
  hid := hid
  inj := by rw [e]; exact R.inj
  obj := fun l o q => (R.obj l o q).tr T e k

/-! ### out of sight -/
def Rho.hide (ρ : Rho) (p : Addr) : Rho := ⟨ρ.c, p :: ρ.h⟩
theorem Tr.hide {p : Addr} {o : HO} (hp : H p = none) : Tr ρ H (ρ.hide p) (upd H p o) where
  pre := fun _ _ h => .inl h
  lst := fun a xs h n m => by
    have ne : a ≠ p := by
      rcases h with h | ⟨u, h⟩ <;> exact ne_of_none h hp
    refine ⟨?_, n, fun z => ?_⟩
    · rcases h with h | ⟨u, h⟩
      · exact .inl (by rw [upd_ne ne]; exact h)
      · exact .inr ⟨u, by rw [upd_ne ne]; exact h⟩
    · rcases List.mem_cons.mp z with z | z
      · exact ne z
      · exact m z
  tup := fun a xs h => by
    rcases h with h | ⟨u, h⟩
    · exact .inl (by rw [upd_ne (ne_of_none h hp)]; exact h)
    · exact .inr ⟨u, by rw [upd_ne (ne_of_none h hp)]; exact h⟩
  dct := fun a ks h n => ⟨by rw [upd_ne (ne_of_none h hp)]; exact h, n⟩
  ext := fun a φ h => by rw [upd_ne (ne_of_none h hp)]; exact h
  xd := fun a φ h => by rw [upd_ne (ne_of_none h hp)]; exact h
theorem Rel.hide (R : Rel K ρ M H) {p : Addr} {xs : List V} (hp : H p = none) : Rel K (ρ.hide p) M (upd H p (.lst xs)) :=
  R.tr (Tr.hide hp) rfl (fun a o _ h => by rw [upd_ne (ne_of_none h hp)]; exact h) fun a m => by
    rcases List.mem_cons.mp m with e | m
    · subst e
      exact ⟨R.fresh hp, xs, upd_same⟩
    · obtain ⟨n, ys, h⟩ := R.hid a m
      exact ⟨n, ys, by rw [upd_ne (ne_of_none h hp)]; exact h⟩
theorem Tr.hidden {p : Addr} {xs : List V} {o : HO} (m : p ∈ ρ.h) (hp : H p = some (.lst xs)) : Tr ρ H ρ (upd H p o) where
  pre := fun _ _ h => .inl h
  lst := fun a ys h n k => by
    have ne : a ≠ p := fun e => k (e ▸ m)
    refine ⟨?_, n, k⟩
    rcases h with h | ⟨u, h⟩
    · exact .inl (by rw [upd_ne ne]; exact h)
    · exact .inr ⟨u, by rw [upd_ne ne]; exact h⟩
  tup := fun a ys h => by
    rcases h with h | ⟨u, h⟩
    · exact .inl (by rw [upd_ne (ne_of h hp fun z => nomatch z)]; exact h)
    · exact .inr ⟨u, by rw [upd_ne (ne_of h hp fun z => nomatch z)]; exact h⟩
  dct := fun a ks h n => ⟨by rw [upd_ne (ne_of h hp fun z => nomatch z)]; exact h, n⟩
  ext := fun a φ h => by rw [upd_ne (ne_of h hp fun z => nomatch z)]; exact h
  xd := fun a φ h => by rw [upd_ne (ne_of h hp fun z => nomatch z)]; exact h
theorem Rel.hidden (R : Rel K ρ M H) {p : Addr} {xs ys : List V} (m : p ∈ ρ.h) (hp : H p = some (.lst xs)) : Rel K ρ M (upd H p (.lst ys)) :=
  R.tr (Tr.hidden m hp) rfl (fun a o q h => by
    have ne : a ≠ p := fun e => (R.hid p m).1 (by rw [← e]; exact q)
    rw [upd_ne ne]
    exact h) fun a k => by
    obtain ⟨n, zs, h⟩ := R.hid a k
    by_cases e : a = p
    · subst e
      exact ⟨n, ys, upd_same⟩
    · exact ⟨n, zs, by rw [upd_ne e]; exact h⟩
theorem Tr.unhide {p : Addr} : Tr (ρ.hide p) H ρ H := ⟨fun _ _ h => .inl h, fun _ _ h n m => ⟨h, n, fun z => m (List.mem_cons_of_mem _ z)⟩, fun _ _ h => h, fun _ _ h n => ⟨h, n⟩, fun _ _ h => h, fun _ _ h => h⟩
theorem Rel.unhide {p : Addr} (R : Rel K (ρ.hide p) M H) : Rel K ρ M H := R.tr Tr.unhide rfl (fun _ _ _ h => h) fun a m => R.hid a (List.mem_cons_of_mem _ m)

/-! ### reading Den -/
theorem den_non {v : V} : Den K ρ H .non v ↔ v = .non := by unfold Den; exact Iff.rfl
theorem den_bl {b : Bool} {v : V} : Den K ρ H (.bl b) v ↔ v = .bl b := by unfold Den; exact Iff.rfl
theorem den_int {i : Int} {v : V} : Den K ρ H (.int i) v ↔ v = .int i := by unfold Den; exact Iff.rfl
theorem den_str {x : Str} {v : V} : Den K ρ H (.str x) v ↔ v = .str x := by unfold Den; exact Iff.rfl
theorem den_ty {n : String} {v : V} : Den K ρ H (.ty n) v ↔ v = .ty n := by unfold Den; exact Iff.rfl
theorem den_adr {a : Addr} {v : V} : Den K ρ H (.adr a) v ↔ v = .ref a := by unfold Den; exact Iff.rfl
theorem den_ref {l : Nat} {v : V} : Den K ρ H (.ref l) v ↔ ∃ a o, v = .ref a ∧ ρ.c[l]? = some o ∧ ∀ b, o = some b → b = a := by unfold Den; exact Iff.rfl
theorem den_tup {ds : List D} {v : V} : Den K ρ H (.tup ds) v ↔ ∃ a xs, v = .ref a ∧ SqT K H a xs ∧ Dens K ρ H ds xs := by unfold Den; exact Iff.rfl
theorem den_lst {ds : List D} {v : V} : Den K ρ H (.lst ds) v ↔ ∃ a xs, v = .ref a ∧ LsV K ρ H a xs ∧ Dens K ρ H ds xs := by unfold Den; exact Iff.rfl
theorem den_dct {ks : List Key} {ds : List D} {v : V} : Den K ρ H (.dct ks ds) v ↔ ∃ a kvs, v = .ref a ∧ H a = some (.dK kvs) ∧ some a ∉ ρ.c ∧ kvs.map (·.1) = ks ∧ Dens K ρ H ds (kvs.map (·.2)) := by unfold Den; exact Iff.rfl
theorem den_fn {n : Str} {v : V} : Den K ρ H (.fn n) v ↔ ∃ a, PySem.W.nsIn K mainGlobals n = some (some (.ref a)) ∧ v = .ref a := by unfold Den; exact Iff.rfl
theorem den_exo {c : Str} {hd : Bool} {ks : List Str} {ds : List D} {v : V} : Den K ρ H (.exo c hd ks ds) v ↔ ∃ a cv d, v = .ref a ∧ CN K c cv ∧ H a = some (ExV cv d a) ∧ (hd = false ∧ d = none ∨ hd = true ∧ ∃ dd gs, d = some dd ∧ H dd = some (.xd gs) ∧ gs.map (·.1) = ks ∧ Dens K ρ H ds (gs.map (·.2))) := by unfold Den; exact Iff.rfl
theorem dens_nil {vs : List V} : Dens K ρ H [] vs ↔ vs = [] := by unfold Dens; exact Iff.rfl
theorem dens_cons {d : D} {ds : List D} {vs : List V} : Dens K ρ H (d :: ds) vs ↔ ∃ v r, vs = v :: r ∧ Den K ρ H d v ∧ Dens K ρ H ds r := by rw [Dens]
theorem dens_iff {ds : List D} {vs : List V} : Dens K ρ H ds vs ↔ Paired (Den K ρ H) ds vs := by
  induction ds generalizing vs with
  | nil =>
    rw [dens_nil]
    exact ⟨fun e => e ▸ .nil, fun p => by cases p; rfl⟩
  | cons d ds ih =>
    rw [dens_cons]
    exact ⟨fun ⟨v, r, e, h1, h2⟩ => e ▸ .cons h1 (ih.mp h2), fun p => by
      cases p with
      | cons h1 h2 => exact ⟨_, _, rfl, h1, ih.mpr h2⟩⟩
theorem Dens.length {ds : List D} {vs : List V} (h : Dens K ρ H ds vs) : ds.length = vs.length := Paired.length (dens_iff.mp h)
theorem Dens.append {ds es : List D} {vs ws : List V} (h : Dens K ρ H ds vs) (g : Dens K ρ H es ws) : Dens K ρ H (ds ++ es) (vs ++ ws) := by
  induction ds generalizing vs with
  | nil => rw [dens_nil] at h; subst h; exact g
  | cons d ds ih =>
    obtain ⟨v, r, rfl, h1, h2⟩ := dens_cons.mp h
    exact dens_cons.mpr ⟨v, r ++ ws, rfl, h1, ih h2⟩
theorem Dens.get {ds : List D} {vs : List V} (h : Dens K ρ H ds vs) {i : Nat} {d : D} (e : ds[i]? = some d) : ∃ v, vs[i]? = some v ∧ Den K ρ H d v := by
  induction ds generalizing vs i with
  | nil => simp at e
  | cons d0 ds ih =>
    obtain ⟨v, r, rfl, h1, h2⟩ := dens_cons.mp h
    cases i with
    | zero => simp at e; subst e; exact ⟨v, rfl, h1⟩
    | succ i => simpa using ih h2 (by simpa using e)
theorem Dens.getV {ds : List D} {vs : List V} (h : Dens K ρ H ds vs) {i : Nat} {v : V} (e : vs[i]? = some v) : ∃ d, ds[i]? = some d ∧ Den K ρ H d v := by
  have hi : i < ds.length := by rw [h.length]; exact (List.getElem?_eq_some_iff.mp e).1
  obtain ⟨w, h1, h2⟩ := h.get (List.getElem?_eq_getElem hi)
  rw [e] at h1; cases h1
  exact ⟨_, List.getElem?_eq_getElem hi, h2⟩
theorem Dens.take {ds : List D} {vs : List V} (n : Nat) (h : Dens K ρ H ds vs) : Dens K ρ H (ds.take n) (vs.take n) := by
  induction ds generalizing vs n with
  | nil => rw [dens_nil] at h; subst h; simp [dens_nil]
  | cons d ds ih =>
    obtain ⟨v, r, rfl, h1, h2⟩ := dens_cons.mp h
    cases n with
    | zero => simp [dens_nil]
    | succ n => simpa using dens_cons.mpr ⟨v, r.take n, rfl, h1, ih n h2⟩
theorem Dens.drop {ds : List D} {vs : List V} (n : Nat) (h : Dens K ρ H ds vs) : Dens K ρ H (ds.drop n) (vs.drop n) := by
  induction ds generalizing vs n with
  | nil => rw [dens_nil] at h; subst h; simp [dens_nil]
  | cons d ds ih =>
    obtain ⟨v, r, rfl, h1, h2⟩ := dens_cons.mp h
    cases n with
    | zero => simpa using dens_cons.mpr ⟨v, r, rfl, h1, h2⟩
    | succ n => simpa using ih n h2
theorem Dens.reverse {ds : List D} {vs : List V} (h : Dens K ρ H ds vs) : Dens K ρ H ds.reverse vs.reverse := by
  induction ds generalizing vs with
  | nil => rw [dens_nil] at h; subst h; simp [dens_nil]
  | cons d ds ih =>
    obtain ⟨v, r, rfl, h1, h2⟩ := dens_cons.mp h
    rw [List.reverse_cons, List.reverse_cons]
    exact (ih h2).append (dens_cons.mpr ⟨v, [], rfl, h1, dens_nil.mpr rfl⟩)
theorem dens_ints {ns : List Int} : Dens K ρ H (ns.map D.int) (ns.map V.int) := by
  induction ns with
  | nil => exact dens_nil.mpr rfl
  | cons n ns ih => exact dens_cons.mpr ⟨_, _, rfl, den_int.mpr rfl, ih⟩
theorem dens_ints_inv {ns : List Int} {vs : List V} (h : Dens K ρ H (ns.map D.int) vs) : vs = ns.map V.int := by
  induction ns generalizing vs with
  | nil => exact dens_nil.mp h
  | cons n ns ih =>
    obtain ⟨v, r, rfl, h1, h2⟩ := dens_cons.mp h
    rw [den_int.mp h1, ih h2]; rfl

/-! ### new objects -/
theorem Stp.alloc {p : Addr} {o : HO} (hp : H p = none) : Stp ρ H ρ (upd H p o) := ⟨fun _ _ h => .inl h, fun _ h => .inl h, fun a u h _ => by rw [upd_ne (ne_of_none h hp)]; exact h, rfl⟩
/-- the cells stand where only others change -/
theorem Rel.same (R : Rel K ρ M H) (S : Stp ρ H ρ H') (k : ∀ a o, some a ∈ ρ.c → H a = some o → H' a = some o) : Rel K ρ M H' where
  len := R.len
  hid := fun a m => let ⟨n, xs, e⟩ := R.hid a m; ⟨n, xs, S.keep a _ e n⟩
  inj := R.inj
  obj := fun l o e => by
    have q := R.obj l o e
    cases o with
    | lst ds =>
      obtain ⟨a, xs, h1, h2, h3⟩ := q
      exact ⟨a, xs, h1, k a _ (mem_of_get h1) h2, Dens.step R S _ _ h3⟩
    | dct kvs =>
      obtain ⟨a, xs, h1, h2, h3⟩ := q
      exact ⟨a, xs, h1, k a _ (mem_of_get h1) h2, DenP.step R S h3⟩
    | ins C fs =>
      obtain ⟨a, Ca, dx, gs, h1, cn, h2, h3⟩ := q
      exact ⟨a, Ca, dx, gs, h1, cn, k a _ (mem_of_get h1) h2, DenP.step R S h3⟩
    | gone => exact q
theorem Rel.alloc (R : Rel K ρ M H) {p : Addr} {o : HO} (hp : H p = none) : Rel K ρ M (upd H p o) :=
  R.same (Stp.alloc hp) fun a u _ h => by rw [upd_ne (ne_of_none h hp)]; exact h
theorem den_newT (R : Rel K ρ M H) {p : Addr} {ds : List D} {xs : List V} (hp : H p = none) (h : Dens K ρ H ds xs) : Den K ρ (upd H p (.tup xs)) (.tup ds) (.ref p) :=
  den_tup.mpr ⟨p, xs, rfl, .inl (.inl upd_same), Dens.step R (Stp.alloc hp) _ _ h⟩
theorem den_newL (R : Rel K ρ M H) {p : Addr} {ds : List D} {xs : List V} (hp : H p = none) (h : Dens K ρ H ds xs) : Den K ρ (upd H p (.lst xs)) (.lst ds) (.ref p) :=
  den_lst.mpr ⟨p, xs, rfl, .inl ⟨.inl upd_same, R.fresh hp, R.freshH hp⟩, Dens.step R (Stp.alloc hp) _ _ h⟩
end
end Mi

end

section
/-! Mi, second part: what an expression comes to, as a function on data; the judgement that says so; names, constants, operators, tests. -/
namespace Mi
open PySem PySem.Spec PyProof.Rows L2

inductive R (α : Type) where
  | ok (a : α) (M : MH)
  | exc (c : Str) (fs : Option (List (Str × D))) (M : MH)
  | err
def R.bind {α β : Type} (r : R α) (f : α → MH → R β) : R β := match r with
  | .ok a M => f a M
  | .exc c fs M => .exc c fs M
  | .err => .err
@[simp] theorem R.bind_ok {α β : Type} (a : α) (M : MH) (f : α → MH → R β) : (R.ok a M).bind f = f a M := rfl
@[simp] theorem R.bind_exc {α β : Type} (c : Str) (fs : Option (List (Str × D))) (M : MH) (f : α → MH → R β) : (R.exc c fs M).bind f = .exc c fs M := rfl
@[simp] theorem R.bind_err {α β : Type} (f : α → MH → R β) : (R.err : R α).bind f = .err := rfl

abbrev En := List (Option D)
abbrev ME := En → MH → R D
abbrev MT := En → MH → R Bool
abbrev MA := En → MH → R (List D)

/-- the slots' values -/
structure EnR (K : PySem.W.Frag) (ρ : Rho) (H : Hp) (env : En) (σ : L2.St) : Prop where
  len : env.length = σ.length
  get : ∀ (i : Nat) (d : D), env[i]? = some (some d) → ∃ v : V, σ[i]? = some (some v) ∧ Den K ρ H d v
theorem EnR.step {K : PySem.W.Frag} {ρ ρ' : Rho} {M : MH} {H H' : Hp} {env : En} {σ : L2.St} (e : EnR K ρ H env σ) (Rl : Rel K ρ M H) (S : Stp ρ H ρ' H') : EnR K ρ' H' env σ :=
  ⟨e.len, fun i d h => let ⟨v, h1, h2⟩ := e.get i d h; ⟨v, h1, Den.step Rl S _ _ h2⟩⟩
theorem EnR.tr {K : PySem.W.Frag} {ρ ρ' : Rho} {H H' : Hp} {env : En} {σ : L2.St} (e : EnR K ρ H env σ) (T : Tr ρ H ρ' H') : EnR K ρ' H' env σ :=
  ⟨e.len, fun i d h => let ⟨v, h1, h2⟩ := e.get i d h; ⟨v, h1, Den.tr T _ _ h2⟩⟩
theorem EnR.set {K : PySem.W.Frag} {ρ : Rho} {H : Hp} {env : En} {σ : L2.St} {d : D} {v : V} (e : EnR K ρ H env σ) (i : Nat) (h : Den K ρ H d v) : EnR K ρ H (env.set i (some d)) (σ.set i (some v)) := by
  refine ⟨by simp [e.len], fun j d' hj => ?_⟩
  by_cases q : i = j
  · subst q
    have hl : i < env.length := by
      have := (List.getElem?_eq_some_iff.mp hj).1
      simpa using this
    rw [List.getElem?_set_self hl] at hj
    cases hj
    exact ⟨v, by rw [List.getElem?_set_self (by rw [← e.len]; exact hl)], h⟩
  · rw [List.getElem?_set_ne q] at hj
    rw [List.getElem?_set_ne q]
    exact e.get j d' hj

def XRel (K : PySem.W.Frag) (ρ : Rho) (H : Hp) : Option (List (Str × D)) → Option Addr → Prop
  | none, d => d = none
  | some fs, d => ∃ a gs, d = some a ∧ H a = some (.xd gs) ∧ DenP K ρ H fs gs

/-- a result holds: whatever stands for it, the wish is so -/
def Ok {α β : Type} (K : PySem.W.Frag) (ρ : Rho) (H : Hp) (dn : Rho → Hp → α → β → Prop) (W : Value → Option Addr → Hp → Prop) (Q : β → Hp → Prop) : R α → Prop
  | .ok a M => ∀ ρ' H' v, Stp ρ H ρ' H' → Rel K ρ' M H' → dn ρ' H' a v → Q v H'
  | .exc c fs M => ∀ ρ' H' d cv, CN K c cv → Stp ρ H ρ' H' → Rel K ρ' M H' → XRel K ρ' H' fs d → W cv d H'
  | .err => False
theorem Ok.bind {α β α' β' : Type} {K : PySem.W.Frag} {ρ : Rho} {H : Hp} {dn : Rho → Hp → α → β → Prop} {dn' : Rho → Hp → α' → β' → Prop} {W : Value → Option Addr → Hp → Prop} {Q : β' → Hp → Prop} {r : R α} {f : α → MH → R α'}
    {Q1 : β → Hp → Prop} (h : Ok K ρ H dn' W Q (r.bind f))
    (k : ∀ a M ρ1 H1 v, r = .ok a M → Stp ρ H ρ1 H1 → Rel K ρ1 M H1 → dn ρ1 H1 a v → Ok K ρ1 H1 dn' W Q (f a M) → Q1 v H1) : Ok K ρ H dn W Q1 r := by
  cases r with
  | err => exact h
  | exc c fs M => exact h
  | ok a M =>
    intro ρ1 H1 v S Rl d
    refine k a M ρ1 H1 v rfl S Rl d ?_
    have h' : Ok K ρ H dn' W Q (f a M) := h
    cases e : f a M with
    | err => rw [e] at h'; exact h'
    | exc c fs M' =>
      rw [e] at h'
      exact fun ρ2 H2 dd cv cn S2 R2 x => h' ρ2 H2 dd cv cn (S.trans S2) R2 x
    | ok b M' =>
      rw [e] at h'
      exact fun ρ2 H2 w S2 R2 x => h' ρ2 H2 w (S.trans S2) R2 x
theorem Ok.mono {α β : Type} {K : PySem.W.Frag} {ρ : Rho} {H : Hp} {dn : Rho → Hp → α → β → Prop} {W : Value → Option Addr → Hp → Prop} {Q Q' : β → Hp → Prop} {r : R α} (h : Ok K ρ H dn W Q r) (q : ∀ v H', Q v H' → Q' v H') : Ok K ρ H dn W Q' r := by
  cases r with
  | err => exact h
  | exc c fs M => exact h
  | ok a M => exact fun ρ1 H1 v S Rl d => q v H1 (h ρ1 H1 v S Rl d)

abbrev DnD (K : PySem.W.Frag) : Rho → Hp → D → V → Prop := fun ρ H d v => Den K ρ H d v
abbrev DnB : Rho → Hp → Bool → Bool → Prop := fun _ _ a b => a = b
abbrev DnA (K : PySem.W.Frag) : Rho → Hp → List D → List V → Prop := fun ρ H d v => Dens K ρ H d v

/-- readings out of functions -/
def tm {α β : Type} (K : PySem.W.Frag) (dn : Rho → Hp → α → β → Prop) (W : WX) (m : En → MH → R α) : L2.St → Hp → (β → Hp → Prop) → Prop :=
  fun σ H Q => ∃ ρ M env, Rel K ρ M H ∧ EnR K ρ H env σ ∧ Ok K ρ H dn (fun c d H' => W c d σ H') Q (m env M)
theorem tm_bind {α β α' β' : Type} {K : PySem.W.Frag} {dn : Rho → Hp → α → β → Prop} {dn' : Rho → Hp → α' → β' → Prop} {W : WX} {m : En → MH → R α} {f : α → En → MH → R α'} {σ : L2.St} {H : Hp} {Q : β' → Hp → Prop} {Q1 : β → Hp → Prop}
    (h : tm K dn' W (fun env M => (m env M).bind fun a M1 => f a env M1) σ H Q)
    (k : ∀ a M1 ρ1 H1 v env, Rel K ρ1 M1 H1 → EnR K ρ1 H1 env σ → dn ρ1 H1 a v → Ok K ρ1 H1 dn' (fun c d H' => W c d σ H') Q (f a env M1) → Q1 v H1) : tm K dn W m σ H Q1 := by
  obtain ⟨ρ, M, env, Rl, E, h⟩ := h
  exact ⟨ρ, M, env, Rl, E, h.bind fun a M1 ρ1 H1 v _ S R1 d h1 => k a M1 ρ1 H1 v env R1 (E.step Rl S) d h1⟩
theorem tm_mono {α β : Type} {K : PySem.W.Frag} {dn : Rho → Hp → α → β → Prop} {W : WX} {m : En → MH → R α} {σ : L2.St} {H : Hp} {Q Q' : β → Hp → Prop} (h : tm K dn W m σ H Q) (q : ∀ v H', Q v H' → Q' v H') : tm K dn W m σ H Q' := by
  obtain ⟨ρ, M, env, Rl, E, h⟩ := h
  exact ⟨ρ, M, env, Rl, E, h.mono q⟩

/-- e is m -/
def SE (X : Cx) (W : WX) (e : Expr) (m : ME) : Prop := PE X e (tm X.K (DnD X.K) W m)
def ST (X : Cx) (W : WX) (e : Expr) (m : MT) : Prop := PT X e (tm X.K DnB W m)
def SA (X : Cx) (W : WX) (es : List Expr) (m : MA) : Prop := PA X es (tm X.K (DnA X.K) W m)

theorem pe_imp {X : Cx} {e : Expr} {t t' : TE} (h : PE X e t) (i : ∀ σ H Q, t' σ H Q → t σ H Q) : PE X e t' := ⟨fun pins s σ H Q I q => h.run pins s σ H Q I (i σ H Q q)⟩
theorem pt_imp {X : Cx} {e : Expr} {t t' : TT} (h : PT X e t) (i : ∀ σ H Q, t' σ H Q → t σ H Q) : PT X e t' := ⟨fun pins s σ H Q I q => h.run pins s σ H Q I (i σ H Q q)⟩
theorem pa_imp {X : Cx} {e : List Expr} {t t' : TA} (h : PA X e t) (i : ∀ σ H Q, t' σ H Q → t σ H Q) : PA X e t' := ⟨fun pos pins s σ H Q I q => h.run pos pins s σ H Q I (i σ H Q q)⟩
/-- the rule may be chosen by what the function tells -/
theorem pe_by {X : Cx} {e : Expr} {t' : TE} (h : ∀ σ H Q, t' σ H Q → ∃ t : TE, PE X e t ∧ t σ H Q) : PE X e t' := ⟨fun pins s σ H Q I q => by
  obtain ⟨t, p, q⟩ := h σ H Q q
  exact p.run pins s σ H Q I q⟩
theorem pt_by {X : Cx} {e : Expr} {t' : TT} (h : ∀ σ H Q, t' σ H Q → ∃ t : TT, PT X e t ∧ t σ H Q) : PT X e t' := ⟨fun pins s σ H Q I q => by
  obtain ⟨t, p, q⟩ := h σ H Q q
  exact p.run pins s σ H Q I q⟩

/-! ### names and constants -/
def mVar (i : Nat) : ME := fun env M => match env[i]? with
  | some (some d) => .ok d M
  | _ => .err
def mC (d : D) : ME := fun _ M => .ok d M
section
variable {X : Cx} {W : WX}
theorem s_var {i : Nat} {x : Str} {pos : Pos} (hN : X.N[i]? = some x := by rfl) (hv : Vis X.env.scope x := by first | exact Or.inl rfl | exact Or.inr (Or.inl rfl) | exact Or.inr (Or.inr rfl)) (hd : (x == ("__debug__" : Str)) = false := by decide)
    (hcd : (x == ("__classdict__" : Str)) = false := by decide) : SE X W (.Name x pos) (mVar i) := by
  refine pe_imp (pe_var hN hv hd hcd) fun σ H Q h => ?_
  obtain ⟨ρ, M, env, Rl, E, h⟩ := h
  unfold mVar at h
  cases e : env[i]? with
  | none => rw [e] at h; exact h.elim
  | some o =>
    cases o with
    | none => rw [e] at h; exact h.elim
    | some d =>
      rw [e] at h
      obtain ⟨v, h1, h2⟩ := E.get i d e
      exact ⟨v, h1, h ρ H v (Stp.refl (K := X.K) (M := M)) Rl h2⟩
/-- a value that is so in every heap -/
def Fix (K : PySem.W.Frag) (d : D) (v : V) : Prop := ∀ ρ H, Den K ρ H d v
theorem s_const {e : Expr} {d : D} {v : V} (h : PE X e (tC v)) (f : Fix X.K d v) : SE X W e (mC d) := by
  refine pe_imp h fun σ H Q q => ?_
  obtain ⟨ρ, M, env, Rl, E, q⟩ := q
  exact q ρ H v (Stp.refl (K := X.K) (M := M)) Rl (f ρ H)
theorem s_int {i j pos} : SE X W (.Constant (.int i) j pos) (mC (.int i)) := s_const pe_int fun _ _ => den_int.mpr rfl
theorem s_bl {b j pos} : SE X W (.Constant (.bool b) j pos) (mC (.bl b)) := s_const pe_bl fun _ _ => den_bl.mpr rfl
theorem s_non {j pos} : SE X W (.Constant .none j pos) (mC .non) := s_const pe_non fun _ _ => den_non.mpr rfl
theorem s_str {x j pos} : SE X W (.Constant (.str x) j pos) (mC (.str x)) := s_const pe_str fun _ _ => den_str.mpr rfl
theorem s_glob {x : Str} {d : D} {v : V} {u : Value} {pos : Pos} (hm : X.mg x = some u) (r : RelV v u) (f : Fix X.K d v) (hg : Gl X x := by rfl) (hd : (x == ("__debug__" : Str)) = false := by decide) : SE X W (.Name x pos) (mC d) := s_const (pe_glob hg hm r hd) f
theorem fix_int {K : PySem.W.Frag} {i : Int} : Fix K (.int i) (.int i) := fun _ _ => den_int.mpr rfl
theorem fix_str {K : PySem.W.Frag} {i : Str} : Fix K (.str i) (.str i) := fun _ _ => den_str.mpr rfl
theorem fix_adr {K : PySem.W.Frag} {a : Addr} : Fix K (.adr a) (.ref a) := fun _ _ => den_adr.mpr rfl

/-! ### lists of arguments -/
def aNil : MA := fun _ M => .ok [] M
def aCons (m : ME) (r : MA) : MA := fun env M => (m env M).bind fun d M1 => (r env M1).bind fun ds M2 => .ok (d :: ds) M2
theorem a_nil : SA X W [] aNil := by
  refine pa_imp pa_nil fun σ H Q h => ?_
  obtain ⟨ρ, M, env, Rl, E, h⟩ := h
  exact h ρ H [] (Stp.refl (K := X.K) (M := M)) Rl (dens_nil.mpr rfl)
theorem a_cons {e : Expr} {es : List Expr} {m : ME} {r : MA} (h1 : SE X W e m) (h2 : SA X W es r) (hs : starEach (e :: es) X.env = (false, eval e X.env) :: starEach es X.env := by rfl) : SA X W (e :: es) (aCons m r) := by
  refine pa_imp (pa_cons h1 h2 hs) fun σ H Q h => ?_
  refine tm_bind (f := fun d env M1 => (r env M1).bind fun ds M2 => .ok (d :: ds) M2) h fun d M1 ρ1 H1 v env R1 E1 dv h => ?_
  refine ⟨ρ1, M1, env, R1, E1, h.bind fun ds M2 ρ2 H2 vs _ S R2 dd h => ?_⟩
  exact h ρ2 H2 (v :: vs) (Stp.refl (K := X.K) (M := M2)) R2 (dens_cons.mpr ⟨v, vs, rfl, Den.step R1 S _ _ dv, dd⟩)

/-! ### values out of values -/
/-- a built-in operation on a list of values: told by f -/
abbrev Op1 := D → MH → R D
abbrev Op2 := D → D → MH → R D
abbrev OpN := List D → MH → R D
def m1 (f : Op1) (a : ME) : ME := fun env M => (a env M).bind fun x M1 => f x M1
def m2 (f : Op2) (a b : ME) : ME := fun env M => (a env M).bind fun x M1 => (b env M1).bind fun y M2 => f x y M2
def mN (f : OpN) (a : MA) : ME := fun env M => (a env M).bind fun xs M1 => f xs M1
/-- what an operation on values does -/
abbrev ROk (K : PySem.W.Frag) (ρ : Rho) (H : Hp) (Q : VK) (r : R D) : Prop := Ok K ρ H (DnD K) (fun _ _ _ => False) Q r
def Op2R (X : Cx) (f : Value → Value → Sem Value) (g : Op2) : Prop := ∀ ρ M H x y v w Q, Rel X.K ρ M H → Den X.K ρ H x v → Den X.K ρ H y w → ROk X.K ρ H Q (g x y M) → ∃ r : R2, OpR X f r ∧ r v w H Q
/-- g raises nothing -/
def Quiet2 (g : Op2) : Prop := ∀ x y M c fs M', g x y M ≠ .exc c fs M'
theorem ok_quiet {α β : Type} {K : PySem.W.Frag} {ρ : Rho} {H : Hp} {dn : Rho → Hp → α → β → Prop} {W W' : Value → Option Addr → Hp → Prop} {Q : β → Hp → Prop} {r : R α} (q : ∀ c fs M, r ≠ .exc c fs M) (h : Ok K ρ H dn W Q r) : Ok K ρ H dn W' Q r := by
  cases r with
  | ok a M => exact h
  | err => exact h
  | exc c fs M => exact absurd rfl (q c fs M)
theorem s_bin {op : Operator} {g : Op2} {a b : Expr} {pos : Pos} {ma mb : ME} (o : Op2R X (binaryOp op) g) (q : Quiet2 g) (ha : SE X W a ma) (hb : SE X W b mb) : SE X W (.BinOp a op b pos) (m2 g ma mb) := by
  refine ⟨fun pins s σ H Q I h => ?_⟩
  refine wpAny_BinOp (binT ha hb (R := fun v w H2 => ∃ r : R2, OpR X (binaryOp op) r ∧ r v w H2 Q) I ?_ fun v u s2 x y H2 I2 rx ry ⟨r, hr, hq⟩ => hr pins s2 σ H2 x y v u Q I2 rx ry hq)
  refine tm_bind (f := fun x env M1 => (mb env M1).bind fun y M2 => g x y M2) h fun x M1 ρ1 H1 v env R1 E1 dx h => ?_
  exact ⟨ρ1, M1, env, R1, E1, h.bind fun y M2 ρ2 H2 w _ S R2 dy h => o ρ2 M2 H2 x y v w Q R2 (Den.step R1 S _ _ dx) dy (ok_quiet (q x y M2) h)⟩
theorem s_cmp {op : CmpOp} {g : Op2} {a b : Expr} {pos : Pos} {ma mb : ME} (o : Op2R X (compareOp op) g) (q : Quiet2 g) (ha : SE X W a ma) (hb : SE X W b mb) (hm : behindInMarks op b = false) : SE X W (.Compare a [op] [b] pos) (m2 g ma mb) := by
  refine ⟨fun pins s σ H Q I h => ?_⟩
  refine wpAny_Compare1 (binT ha hb (R := fun v w H2 => ∃ r : R2, OpR X (compareOp op) r ∧ r v w H2 Q) I ?_ fun v u s2 x y H2 I2 rx ry ⟨r, hr, hq⟩ => hr pins s2 σ H2 x y v u Q I2 rx ry hq) hm
  refine tm_bind (f := fun x env M1 => (mb env M1).bind fun y M2 => g x y M2) h fun x M1 ρ1 H1 v env R1 E1 dx h => ?_
  exact ⟨ρ1, M1, env, R1, E1, h.bind fun y M2 ρ2 H2 w _ S R2 dy h => o ρ2 M2 H2 x y v w Q R2 (Den.step R1 S _ _ dx) dy (ok_quiet (q x y M2) h)⟩
end
end Mi

end

section
/-! Mi, third part: the operators, by what they do with data. -/
namespace Mi
open PySem PySem.Spec PyProof.Rows L2

/-- what a body may lean on -/
structure Cf (X : Cx) : Prop where
  hu : X.A.units + 100 < cLine
  guards : X.A.guards = some []
abbrev lim : Nat := 1000000
theorem lim_le {n : Nat} (h : n ≤ lim) : n ≤ sizeLine := Nat.le_trans h (by decide)
theorem lim_lt {n : Nat} (h : n < lim) : n < sizeLine := Nat.lt_of_lt_of_le h (by decide)

/-! ### lists joined, wherever they stand -/
section
variable {prog : Program} {w : World} {A : Around} {E : Value → Shared → Prop} {s : Shared}
theorem joinL {l b : Addr} {us ws : List Value} {Q : Value → Shared → Prop} (p1 : s.heap.IsList l us.toArray) (p2 : s.heap.IsList b ws.toArray) (z : us.length + ws.length ≤ sizeLine)
    (q : Q (.ref s.heap.objs.size) { s with heap := s.heap.push { cls := .type "list", data := .seq (us ++ ws).toArray } }) : wpAny (model prog w) A (binaryOp .Add (.ref l) (.ref b)) Q E s := by
  obtain ⟨⟨k1, d1, a1, t1⟩, g1, e1, n1, f1⟩ := p1
  obtain ⟨⟨k2, d2, a2, t2⟩, g2, e2, n2, f2⟩ := p2
  simp only at e1 f1 e2 f2
  subst e1 f1 e2 f2
  have ea : us.toArray ++ ws.toArray = (us ++ ws).toArray := by simp
  refine concat_meets ⟨_, g1, rfl⟩ ⟨_, g2, rfl⟩ noFill_list_add seq_list_add
    PySem.F.slot_list_add PySem.F.entry_list_add (PySem.F.args_list_add_2 _ _)
    (list_addW l b us.toArray ws.toArray n1 n2 d1 d2 t1 t2 (by simpa using z)) ⟨g1, g2, ?_⟩
  rw [ea]
  exact q
end
section
variable {X : Cx}
def rJoin (K : PySem.W.Frag) : R2 := fun x y H Q => ∃ l b xs zs, x = .ref l ∧ y = .ref b ∧ SqL K H l xs ∧ SqL K H b zs ∧ xs.length + zs.length ≤ sizeLine ∧ ∀ p, H p = none → Q (.ref p) (upd H p (.lst (xs ++ zs)))
theorem op_join : OpR X (binaryOp .Add) (rJoin X.K) := by
  intro pins s σ H x y v u Q I rx ry h
  obtain ⟨l, b, xs, zs, rfl, rfl, h1, h2, hz, q⟩ := h
  cases rx
  cases ry
  obtain ⟨its, r1, p1, _⟩ := I.list h1
  obtain ⟨its2, r2, p2, _⟩ := I.list h2
  have e1 := r1.length
  have e2 := r2.length
  refine joinL p1.isList p2.isList (by omega) ?_
  exact ⟨.ref _, _, I.lnew (t' := s.toks) (r1.append r2) (by rw [List.length_append]; omega), rfl, q _ I.fresh⟩

/-! ### + -/
def addD : Op2 := fun x y M => match x, y with
  | .int i, .int j => .ok (.int (i + j)) M
  | .str a, .str b => if a.length + b.length ≤ lim then .ok (.str (a ++ b)) M else .err
  | .tup xs, .tup ys => if xs.length + ys.length ≤ lim then .ok (.tup (xs ++ ys)) M else .err
  | .lst xs, .lst ys => if xs.length + ys.length ≤ lim then .ok (.lst (xs ++ ys)) M else .err
  | _, _ => .err
theorem here {α : Type} {K : PySem.W.Frag} {ρ : Rho} {M : MH} {H : Hp} {dn : Rho → Hp → D → α → Prop} {W : Value → Option Addr → Hp → Prop} {Q : α → Hp → Prop} {d : D} {v : α} (Rl : Rel K ρ M H) (h : Ok K ρ H dn W Q (.ok d M)) (e : dn ρ H d v) : Q v H :=
  h ρ H v (Stp.refl (K := K) (M := M)) Rl e
theorem newT {K : PySem.W.Frag} {ρ : Rho} {M : MH} {H : Hp} {W : Value → Option Addr → Hp → Prop} {Q : VK} {ds : List D} {xs : List V} (Rl : Rel K ρ M H) (h : Ok K ρ H (DnD K) W Q (.ok (.tup ds) M)) (e : Dens K ρ H ds xs) : ∀ p, H p = none → Q (.ref p) (upd H p (.tup xs)) :=
  fun p hp => h ρ _ _ (Stp.alloc hp) (Rl.alloc hp) (den_newT Rl hp e)
theorem newL {K : PySem.W.Frag} {ρ : Rho} {M : MH} {H : Hp} {W : Value → Option Addr → Hp → Prop} {Q : VK} {ds : List D} {xs : List V} (Rl : Rel K ρ M H) (h : Ok K ρ H (DnD K) W Q (.ok (.lst ds) M)) (e : Dens K ρ H ds xs) : ∀ p, H p = none → Q (.ref p) (upd H p (.lst xs)) :=
  fun p hp => h ρ _ _ (Stp.alloc hp) (Rl.alloc hp) (den_newL Rl hp e)
theorem o_add : Op2R X (binaryOp .Add) addD := by
  intro ρ M H x y v w Q Rl dx dy h
  unfold addD at h
  split at h
  · rw [den_int] at dx dy
    subst dx dy
    exact ⟨_, op_add, _, _, rfl, rfl, here Rl h (den_int.mpr rfl)⟩
  · rw [den_str] at dx dy
    subst dx dy
    split at h
    · rename_i z
      exact ⟨_, op_add_str, _, _, rfl, rfl, lim_le z, here Rl h (den_str.mpr rfl)⟩
    · exact h.elim
  · rename_i ds es
    obtain ⟨a, xs, rfl, hs, hd⟩ := den_tup.mp dx
    obtain ⟨b, ys, rfl, hs2, hd2⟩ := den_tup.mp dy
    split at h
    · rename_i z
      refine ⟨_, op_catA, a, b, xs, ys, rfl, rfl, hs, hs2, by rw [← hd.length, ← hd2.length]; exact lim_le z, fun e => ?_, fun _ e => ?_, fun _ _ => newT Rl h (hd.append hd2)⟩
      · subst e
        have e2 : ds = [] := List.eq_nil_of_length_eq_zero hd.length
        subst e2
        exact here Rl h dy
      · subst e
        have e2 : es = [] := List.eq_nil_of_length_eq_zero hd2.length
        subst e2
        rw [List.append_nil] at h
        exact here Rl h dx
    · exact h.elim
  · rename_i ds es
    obtain ⟨a, xs, rfl, hs, hd⟩ := den_lst.mp dx
    obtain ⟨b, ys, rfl, hs2, hd2⟩ := den_lst.mp dy
    split at h
    · rename_i z
      exact ⟨_, op_join, a, b, xs, ys, rfl, rfl, hs.sq, hs2.sq, by rw [← hd.length, ← hd2.length]; exact lim_le z, newL Rl h (hd.append hd2)⟩
    · exact h.elim
  · exact h.elim
theorem q_add : Quiet2 addD := by
  intro x y M c fs M' e
  unfold addD at e
  (repeat' split at e) <;> cases e

/-! ### the other operators on whole numbers -/
def int2 (g : Int → Int → Option Int) : Op2 := fun x y M => match x, y with
  | .int i, .int j => match g i j with
    | some k => .ok (.int k) M
    | none => .err
  | _, _ => .err
theorem q_int2 {g : Int → Int → Option Int} : Quiet2 (int2 g) := by
  intro x y M c fs M' e
  unfold int2 at e
  (repeat' split at e) <;> cases e
theorem o_int2 {f : Value → Value → Sem Value} {g : Int → Int → Option Int} {C : Int → Int → Prop} {k : Int → Int → V} (o : OpR X f (rI C k)) (hc : ∀ i j z, g i j = some z → C i j ∧ k i j = .int z) : Op2R X f (int2 g) := by
  intro ρ M H x y v w Q Rl dx dy h
  unfold int2 at h
  split at h
  · rename_i i j
    rw [den_int] at dx dy
    subst dx dy
    split at h
    · rename_i z e
      obtain ⟨h1, h2⟩ := hc i j z e
      refine ⟨_, o, i, j, rfl, rfl, h1, ?_⟩
      rw [h2]
      exact here Rl h (den_int.mpr rfl)
    · exact h.elim
  · exact h.elim
theorem o_int2' {f : Value → Value → Sem Value} {g : Int → Int → Option Int} {k : Int → Int → V} (o : OpR X f (rI0 k)) (hc : ∀ i j z, g i j = some z → k i j = .int z) : Op2R X f (int2 g) := by
  intro ρ M H x y v w Q Rl dx dy h
  unfold int2 at h
  split at h
  · rename_i i j
    rw [den_int] at dx dy
    subst dx dy
    split at h
    · rename_i z e
      refine ⟨_, o, i, j, rfl, rfl, ?_⟩
      rw [hc i j z e]
      exact here Rl h (den_int.mpr rfl)
    · exact h.elim
  · exact h.elim
def subD : Op2 := int2 fun i j => some (i - j)
theorem o_sub : Op2R X (binaryOp .Sub) subD := o_int2' op_sub fun i j z e => by cases e; rfl
def modD : Op2 := int2 fun i j => if 0 < j then some (i % j) else none
theorem o_mod : Op2R X (binaryOp .Mod) modD := o_int2 op_mod fun i j z e => by
  split at e
  · cases e; exact ⟨by assumption, rfl⟩
  · cases e
def fdivD : Op2 := int2 fun i j => if 0 < j ∧ j.natAbs.log2 < 9000 then some (i / j) else none
theorem o_fdiv : Op2R X (binaryOp .FloorDiv) fdivD := o_int2 op_fdivW fun i j z e => by
  split at e
  · cases e; exact ⟨by assumption, rfl⟩
  · cases e
def shrD : Op2 := int2 fun i j => if 0 ≤ j then some (i / 2 ^ j.toNat) else none
theorem o_shr : Op2R X (binaryOp .RShift) shrD := o_int2 op_shr fun i j z e => by
  split at e
  · cases e; exact ⟨by assumption, rfl⟩
  · cases e
def shlD : Op2 := int2 fun i j => if 0 ≤ j ∧ j ≤ 1000000 ∧ i.natAbs < 2 ^ 64 then some (i * 2 ^ j.toNat) else none
theorem o_shl : Op2R X (binaryOp .LShift) shlD := o_int2 op_shl fun i j z e => by
  split at e
  · cases e; exact ⟨by assumption, rfl⟩
  · cases e
def powD : Op2 := int2 fun i j => if 0 ≤ j ∧ j ≤ 1000000 ∧ i.natAbs < 2 ^ 64 then some (i ^ j.toNat) else none
theorem o_pow : Op2R X (binaryOp .Pow) powD := o_int2 op_pow fun i j z e => by
  split at e
  · cases e; exact ⟨by assumption, rfl⟩
  · cases e
def andD : Op2 := int2 fun i j => some (Builtin.bitAnd i j)
theorem o_and : Op2R X (binaryOp .BitAnd) andD := o_int2' op_and fun i j z e => by cases e; rfl
/-! ### times: numbers, a tuple so many times -/
def mulD : Op2 := fun x y M => match x, y with
  | .int i, .int j => if i.natAbs.log2 + j.natAbs.log2 < 1000000 then .ok (.int (i * j)) M else .err
  | .tup ds, .int k => if ds ≠ [] ∧ 2 ≤ k ∧ k ≤ 1000 ∧ ds.length ≤ 1000 then .ok (.tup (List.replicate k.toNat ds).flatten) M else .err
  | _, _ => .err
theorem Dens.rep {K : PySem.W.Frag} {ρ : Rho} {H : Hp} {ds : List D} {xs : List V} (h : Dens K ρ H ds xs) : ∀ n : Nat, Dens K ρ H (List.replicate n ds).flatten (List.replicate n xs).flatten
  | 0 => by simpa using dens_nil.mpr rfl
  | n + 1 => by
    rw [List.replicate_succ, List.replicate_succ, List.flatten_cons, List.flatten_cons]
    exact h.append (Dens.rep h n)
theorem o_mul : Op2R X (binaryOp .Mult) mulD := by
  intro ρ M H x y v w Q Rl dx dy h
  unfold mulD at h
  split at h
  · rw [den_int] at dx dy
    subst dx dy
    split at h
    · rename_i z
      exact ⟨_, op_mulW, _, _, rfl, rfl, z, here Rl h (den_int.mpr rfl)⟩
    · exact h.elim
  · rename_i ds k
    obtain ⟨a, xs, rfl, hs, hd⟩ := den_tup.mp dx
    rw [den_int] at dy
    subst dy
    split at h
    · rename_i z
      obtain ⟨z1, z2, z3, z4⟩ := z
      refine ⟨_, op_repT, a, k, xs, rfl, rfl, hs, fun e => ?_, z2, z3, by rw [← hd.length]; exact z4, newT Rl h (hd.rep _)⟩
      subst e
      exact z1 (List.eq_nil_of_length_eq_zero hd.length)
    · exact h.elim
  · exact h.elim
theorem q_mul : Quiet2 mulD := by
  intro x y M c fs M' e
  unfold mulD at e
  (repeat' split at e) <;> cases e
/-! ### - in front -/
def negD : Op1 := fun x M => match x with
  | .int i => .ok (.int (-i)) M
  | _ => .err
theorem s_neg {W : WX} {a : Expr} {pos : Pos} {ma : ME} (ha : SE X W a ma) : SE X W (.UnaryOp .USub a pos) (m1 negD ma) := by
  refine pe_imp (pe_un un_neg ha) fun σ H Q h => ?_
  refine tm_bind (f := fun x _ M1 => negD x M1) h fun x M1 ρ1 H1 v env R1 E1 dx h => ?_
  unfold negD at h
  split at h
  · rw [show v = _ from den_int.mp dx]
    exact ⟨_, rfl, here R1 h (den_int.mpr rfl)⟩
  · exact h.elim
end
end Mi

end

section
/-! Mi, fourth part: comparisons, tests, and, or, not, one or the other. -/
namespace Mi
open PySem PySem.Spec PyProof.Rows L2

/-! ### data, as the library compares it -/
mutual
def py : D → PyData
  | .non => .none
  | .bl b => .bool b
  | .int i => .int i
  | .str x => .str x
  | .tup ds => .tuple (pys ds)
  | .lst ds => .list (pys ds)
  | .ty _ => .none
  | .adr _ => .none
  | .ref _ => .none
  | .dct _ _ => .none
  | .fn _ => .none
  | .exo _ _ _ _ => .none
def pys : List D → List PyData
  | [] => []
  | d :: ds => py d :: pys ds
end
mutual
/-- plain data, not deeper than so -/
def flat : D → Nat → Bool
  | .non, _ => true
  | .bl _, _ => true
  | .int _, _ => true
  | .str x, _ => PyData.strOk x
  | .tup ds, n => decide (0 < n) && flats ds (n - 1)
  | .lst ds, n => decide (0 < n) && flats ds (n - 1)
  | .ty _, _ => false
  | .adr _, _ => false
  | .ref _, _ => false
  | .dct _ _, _ => false
  | .fn _, _ => false
  | .exo _ _ _ _, _ => false
def flats : List D → Nat → Bool
  | [], _ => true
  | d :: ds, n => flat d n && flats ds n
end
mutual
theorem flat_can : ∀ (d : D) (n : Nat), flat d n = true → PyData.canLay0 (py d) = true ∧ PyData.depth (py d) ≤ n
  | .non, n, _ => by simp [py, PyData.canLay0, PyData.depth]
  | .bl _, n, _ => by simp [py, PyData.canLay0, PyData.depth]
  | .int _, n, _ => by simp [py, PyData.canLay0, PyData.depth]
  | .str x, n, h => by
    simp only [flat] at h
    simp [py, PyData.canLay0, PyData.depth, h]
  | .tup ds, n, h => by
    simp only [flat, Bool.and_eq_true, decide_eq_true_eq] at h
    have := flats_can ds (n - 1) h.2
    simp only [py, PyData.canLay0, PyData.depth]
    exact ⟨this.1, by omega⟩
  | .lst ds, n, h => by
    simp only [flat, Bool.and_eq_true, decide_eq_true_eq] at h
    have := flats_can ds (n - 1) h.2
    simp only [py, PyData.canLay0, PyData.depth]
    exact ⟨this.1, by omega⟩
  | .ty _, _, h => by simp [flat] at h
  | .adr _, _, h => by simp [flat] at h
  | .ref _, _, h => by simp [flat] at h
  | .dct _ _, _, h => by simp [flat] at h
  | .fn _, _, h => by simp [flat] at h
  | .exo _ _ _ _, _, h => by simp [flat] at h
theorem flats_can : ∀ (ds : List D) (n : Nat), flats ds n = true → PyData.canLayAll0 (pys ds) = true ∧ PyData.depthAll (pys ds) ≤ n
  | [], n, _ => by simp [pys, PyData.canLayAll0, PyData.depthAll]
  | d :: ds, n, h => by
    simp only [flats, Bool.and_eq_true] at h
    have h1 := flat_can d n h.1
    have h2 := flats_can ds n h.2
    simp only [pys, PyData.canLayAll0, PyData.depthAll, h1.1, h2.1, Bool.and_self, true_and]
    omega
end
theorem flat_shaped {d : D} (h : flat d 64 = true) : SeqAt.shaped (py d) = true := by
  obtain ⟨h1, h2⟩ := flat_can d 64 h
  unfold SeqAt.shaped
  rw [h1, decide_eq_true h2]
  rfl
section
variable {K : PySem.W.Frag} {ρ : Rho} {M : MH} {H : Hp}
mutual
theorem flat_dp : ∀ (d : D) (n : Nat) (v : V), flat d n = true → Den K ρ H d v → Dp K H v (py d)
  | .non, n, v, _, h => by rw [den_non] at h; subst h; unfold py; exact .non
  | .bl b, n, v, _, h => by rw [den_bl] at h; subst h; unfold py; exact .bl b
  | .int i, n, v, _, h => by rw [den_int] at h; subst h; unfold py; exact .int i
  | .str x, n, v, _, h => by rw [den_str] at h; subst h; unfold py; exact .str x
  | .tup ds, n, v, f, h => by
    simp only [flat, Bool.and_eq_true, decide_eq_true_eq] at f
    obtain ⟨a, xs, rfl, h1, h2⟩ := den_tup.mp h
    unfold py
    exact .tup h1 (flats_dp ds (n - 1) xs f.2 h2)
  | .lst ds, n, v, f, h => by
    simp only [flat, Bool.and_eq_true, decide_eq_true_eq] at f
    obtain ⟨a, xs, rfl, h1, h2⟩ := den_lst.mp h
    unfold py
    exact .lst h1.sq (flats_dp ds (n - 1) xs f.2 h2)
  | .ty _, _, _, f, _ => by simp [flat] at f
  | .adr _, _, _, f, _ => by simp [flat] at f
  | .ref _, _, _, f, _ => by simp [flat] at f
  | .dct _ _, _, _, f, _ => by simp [flat] at f
  | .fn _, _, _, f, _ => by simp [flat] at f
  | .exo _ _ _ _, _, _, f, _ => by simp [flat] at f
theorem flats_dp : ∀ (ds : List D) (n : Nat) (vs : List V), flats ds n = true → Dens K ρ H ds vs → DpAll K H vs (pys ds)
  | [], n, vs, _, h => by rw [dens_nil] at h; subst h; unfold pys; exact .nil
  | d :: ds, n, vs, f, h => by
    simp only [flats, Bool.and_eq_true] at f
    obtain ⟨v, r, rfl, h1, h2⟩ := dens_cons.mp h
    unfold pys
    exact .cons (flat_dp d n v f.1 h1) (flats_dp ds n r f.2 h2)
end
end
def deq (x y : D) : Bool := PyData.eqv (py x) (py y)
def deqs (xs ys : List D) : Bool := PyData.eqvAll (pys xs) (pys ys)

/-! ### == and != -/
def isStr : D → Bool
  | .str _ => true
  | _ => false
/-- texts, or plain data -/
def likeD (x y : D) : Bool := (isStr x && isStr y) || (flat x 64 && flat y 64)
def eqD : Op2 := fun x y M => if likeD x y then .ok (.bl (deq x y)) M else .err
def neD : Op2 := fun x y M => if likeD x y then .ok (.bl (!deq x y)) M else .err
theorem two_str {K : PySem.W.Frag} {ρ : Rho} {H : Hp} {x y : D} {v w : V} (hx : isStr x = true) (hy : isStr y = true) (dx : Den K ρ H x v) (dy : Den K ρ H y w) : ∃ a b, v = .str a ∧ w = .str b ∧ deq x y = decide (V.str a = V.str b) := by
  cases x <;> first
    | (cases hx; done)
    | skip
  cases y <;> first
    | (cases hy; done)
    | skip
  rename_i a b
  refine ⟨a, b, den_str.mp dx, den_str.mp dy, ?_⟩
  rw [show deq (.str a) (.str b) = (a == b) from rfl, Bool.eq_iff_iff, beq_iff_eq, decide_eq_true_iff, V.str.injEq]
theorem q_eq : Quiet2 eqD := by
  intro x y M c fs M' e
  unfold eqD at e
  split at e <;> cases e
theorem q_ne : Quiet2 neD := by
  intro x y M c fs M' e
  unfold neD at e
  split at e <;> cases e
section
variable {X : Cx}
theorem o_eq (c : Cf X) : Op2R X (compareOp .Eq) eqD := by
  intro ρ M H x y v w Q Rl dx dy h
  unfold eqD at h
  split at h
  · rename_i z
    unfold likeD at z
    simp only [Bool.or_eq_true, Bool.and_eq_true] at z
    rcases z with z | z
    · obtain ⟨a, b, rfl, rfl, e⟩ := two_str z.1 z.2 dx dy
      refine ⟨_, op_eq, rfl, ?_⟩
      rw [← e]
      exact here Rl h (den_bl.mpr rfl)
    exact ⟨_, op_eqD (by have := c.hu; omega), _, _, flat_dp x 64 v z.1 dx, flat_dp y 64 w z.2 dy, flat_shaped z.1, flat_shaped z.2, here Rl h (den_bl.mpr rfl)⟩
  · exact h.elim
theorem o_ne (c : Cf X) : Op2R X (compareOp .NotEq) neD := by
  intro ρ M H x y v w Q Rl dx dy h
  unfold neD at h
  split at h
  · rename_i z
    unfold likeD at z
    simp only [Bool.or_eq_true, Bool.and_eq_true] at z
    rcases z with z | z
    · obtain ⟨a, b, rfl, rfl, e⟩ := two_str z.1 z.2 dx dy
      refine ⟨_, op_ne, rfl, ?_⟩
      rw [← e]
      exact here Rl h (den_bl.mpr rfl)
    exact ⟨_, op_neD (by have := c.hu; omega), _, _, flat_dp x 64 v z.1 dx, flat_dp y 64 w z.2 dy, flat_shaped z.1, flat_shaped z.2, here Rl h (den_bl.mpr rfl)⟩
  · exact h.elim

/-! ### order of whole numbers -/
def cmpD (g : Int → Int → Bool) : Op2 := fun x y M => match x, y with
  | .int i, .int j => .ok (.bl (g i j)) M
  | _, _ => .err
theorem q_cmpD {g : Int → Int → Bool} : Quiet2 (cmpD g) := by
  intro x y M c fs M' e
  unfold cmpD at e
  split at e <;> cases e
theorem o_cmpD {f : Value → Value → Sem Value} {g : Int → Int → Bool} (o : OpR X f (rI0 fun i j => .bl (g i j))) : Op2R X f (cmpD g) := by
  intro ρ M H x y v w Q Rl dx dy h
  unfold cmpD at h
  split at h
  · rw [den_int] at dx dy
    subst dx dy
    exact ⟨_, o, _, _, rfl, rfl, here Rl h (den_bl.mpr rfl)⟩
  · exact h.elim
abbrev ltD : Op2 := cmpD fun i j => decide (i < j)
abbrev leD : Op2 := cmpD fun i j => decide (i ≤ j)
abbrev gtD : Op2 := cmpD fun i j => decide (j < i)
abbrev geD : Op2 := cmpD fun i j => decide (j ≤ i)
theorem o_lt : Op2R X (compareOp .Lt) ltD := o_cmpD op_lt
theorem o_le : Op2R X (compareOp .LtE) leD := o_cmpD op_le
theorem o_gt : Op2R X (compareOp .Gt) gtD := o_cmpD op_gt
theorem o_ge : Op2R X (compareOp .GtE) geD := o_cmpD op_ge

/-! ### is None, is not None; is True -/
def isNon : D → Bool
  | .non => true
  | _ => false
theorem isNon_v {K : PySem.W.Frag} {ρ : Rho} {H : Hp} {d : D} {v : V} (h : Den K ρ H d v) : decide (v = .non) = isNon d := by
  cases d <;> first
    | (rw [den_non] at h; subst h; rfl)
    | (rw [den_bl] at h; subst h; rfl)
    | (rw [den_int] at h; subst h; rfl)
    | (rw [den_str] at h; subst h; rfl)
    | (rw [den_ty] at h; subst h; rfl)
    | (rw [den_adr] at h; subst h; rfl)
    | (obtain ⟨a, o, rfl, _⟩ := den_ref.mp h; rfl)
    | (obtain ⟨a, xs, rfl, _⟩ := den_tup.mp h; rfl)
    | (obtain ⟨a, xs, rfl, _⟩ := den_lst.mp h; rfl)
    | (obtain ⟨a, xs, rfl, _⟩ := den_dct.mp h; rfl)
    | (obtain ⟨a, _, rfl⟩ := den_fn.mp h; rfl)
    | (obtain ⟨a, cv, d, rfl, _⟩ := den_exo.mp h; rfl)
def isD (neg : Bool) : Op2 := fun x y M => match x, y with
  | x, .non => .ok (.bl (isNon x != neg)) M
  | .bl a, .bl b => .ok (.bl ((a == b) != neg)) M
  | _, _ => .err
theorem q_is {neg : Bool} : Quiet2 (isD neg) := by
  intro x y M c fs M' e
  unfold isD at e
  split at e <;> cases e
end
end Mi

end

section
/-! Mi, fifth part: is, in, chains, truth, and, or, not, one or the other, items. -/
namespace Mi
open PySem PySem.Spec PyProof.Rows L2
section
variable {X : Cx} {W : WX}

theorem o_is : Op2R X (compareOp .Is) (isD false) := by
  intro ρ M H x y v w Q Rl dx dy h
  unfold isD at h
  split at h
  · rw [den_non] at dy
    subst dy
    refine ⟨_, op_isN, rfl, ?_⟩
    rw [isNon_v dx]
    have h' := here Rl h (den_bl.mpr rfl)
    simpa using h'
  · rw [den_bl] at dx dy
    subst dx dy
    refine ⟨_, op_is_bl, _, _, rfl, rfl, ?_⟩
    have h' := here Rl h (den_bl.mpr rfl)
    simpa [Bool.beq_eq_decide_eq] using h'
  · exact h.elim
theorem o_isNot : Op2R X (compareOp .IsNot) (isD true) := by
  intro ρ M H x y v w Q Rl dx dy h
  unfold isD at h
  split at h
  · rw [den_non] at dy
    subst dy
    refine ⟨_, op_notN, rfl, ?_⟩
    rw [isNon_v dx]
    have h' := here Rl h (den_bl.mpr rfl)
    simpa using h'
  · rw [den_bl] at dx dy
    subst dx dy
    refine ⟨_, op_isnot_bl, _, _, rfl, rfl, ?_⟩
    have h' := here Rl h (den_bl.mpr rfl)
    simpa [Bool.beq_eq_decide_eq] using h'
  · exact h.elim

/-! ### in, not in -/
def scal : D → Bool
  | .non => true
  | .bl _ => true
  | .int _ => true
  | .str _ => true
  | _ => false
/-- a plain one's own value -/
def sv : D → V
  | .bl b => .bl b
  | .int i => .int i
  | .str x => .str x
  | _ => .non
theorem scal_v {K : PySem.W.Frag} {ρ : Rho} {H : Hp} {d : D} {v : V} (s : scal d = true) (h : Den K ρ H d v) : v = sv d := by
  cases d <;> first
    | (rw [den_non] at h; exact h)
    | (rw [den_bl] at h; exact h)
    | (rw [den_int] at h; exact h)
    | (rw [den_str] at h; exact h)
    | (cases s)
theorem scal_flat {K : PySem.W.Frag} {ρ : Rho} {H : Hp} {d : D} {v : V} (s : scal d = true) (h : Den K ρ H d v) : flatV v = true := by
  rw [scal_v s h]
  cases d <;> rfl
theorem scal_eq {K : PySem.W.Frag} {ρ : Rho} {H : Hp} {d e : D} {v w : V} (s : scal d = true) (t : scal e = true) (h : Den K ρ H d v) (g : Den K ρ H e w) : eqV v w = deq d e := by
  rw [scal_v s h, scal_v t g]
  cases d <;> cases e <;> first
    | (cases s; done)
    | (cases t; done)
    | simp [sv, eqV, deq, py, PyData.eqv]
def keyOf : D → Option Key
  | .int i => some (.inl i)
  | .str x => some (.inr x)
  | _ => none
theorem keyOf_v {K : PySem.W.Frag} {ρ : Rho} {H : Hp} {d : D} {k : Key} {v : V} (e : keyOf d = some k) (h : Den K ρ H d v) : v = kV k := by
  cases d <;> first
    | (cases e; rw [den_int] at h; exact h)
    | (cases e; rw [den_str] at h; exact h)
    | (cases e)
def inLs (x : D) (ds : List D) : Bool := ds.any fun z => deq z x
def inD (neg : Bool) : Op2 := fun x y M => match y with
  | .lst ds => if flat x 64 && flat (.lst ds) 64 then .ok (.bl (inLs x ds != neg)) M else .err
  | .tup ds => if scal x && ds.all scal then .ok (.bl (inLs x ds != neg)) M else .err
  | .str z => match x with
    | .str t => match t.cps.toList with
      | [c] => .ok (.bl (decide (c ∈ z.cps.toList) != neg)) M
      | _ => .err
    | _ => .err
  | .dct ks _ => match keyOf x with
    | some k => .ok (.bl (ks.any (fun q => decide (q = k)) != neg)) M
    | none => .err
  | .ref l => match M[l]? with
    | some (.lst ds) => if flat x 64 && flat (.lst ds) 64 then .ok (.bl (inLs x ds != neg)) M else .err
    | some (.dct kvs) => match keyOf x with
      | some k => .ok (.bl (kvs.any (fun q => decide (q.1 = k)) != neg)) M
      | none => .err
    | _ => .err
  | _ => .err
theorem q_in {neg : Bool} : Quiet2 (inD neg) := by
  intro x y M c fs M' e
  unfold inD at e
  (repeat' split at e) <;> cases e
def rInDc (neg : Bool) : R2 := fun x y H Q => ∃ a o, y = .ref a ∧ DGet H a x o ∧ Q (.bl (if neg then !o.isSome else o.isSome)) H
theorem op_inDc (hu : X.A.units + 1 < cLine) : OpR X (compareOp .In) (rInDc false) := by
  intro pins s σ H x y v u Q I rx ry h
  obtain ⟨a, o, rfl, g, q⟩ := h
  cases ry
  exact d_in hu I g rx fun s' I' => ⟨.bl o.isSome, H, I', rfl, q⟩
theorem op_notInDc (hu : X.A.units + 1 < cLine) : OpR X (compareOp .NotIn) (rInDc true) := by
  intro pins s σ H x y v u Q I rx ry h
  obtain ⟨a, o, rfl, g, q⟩ := h
  cases ry
  exact d_notIn hu I g rx fun s' I' => ⟨.bl (!o.isSome), H, I', rfl, q⟩
theorem pys_any (ds : List D) (x : D) : ((pys ds).any fun z => PyData.eqv z (py x)) = inLs x ds := by
  induction ds with
  | nil => rfl
  | cons d ds ih =>
    show (((py d) :: pys ds).any fun z => PyData.eqv z (py x)) = _
    rw [List.any_cons, ih]
    rfl
theorem vals_any {K : PySem.W.Frag} {ρ : Rho} {H : Hp} {x : D} {v : V} (sx : scal x = true) (dx : Den K ρ H x v) : ∀ {ds : List D} {xs : List V}, ds.all scal = true → Dens K ρ H ds xs → (xs.any fun y => eqV y v) = inLs x ds ∧ xs.all flatV = true
  | [], xs, _, h => by rw [dens_nil] at h; subst h; exact ⟨rfl, rfl⟩
  | d :: ds, xs, a, h => by
    obtain ⟨w, r, rfl, h1, h2⟩ := dens_cons.mp h
    rw [List.all_cons, Bool.and_eq_true] at a
    obtain ⟨i1, i2⟩ := vals_any sx dx a.2 h2
    refine ⟨?_, ?_⟩
    · rw [List.any_cons, i1, scal_eq a.1 sx h1 dx]
      rfl
    · rw [List.all_cons, scal_flat a.1 h1, i2]
      rfl
theorem valV_some {κ : Type} [DecidableEq κ] (kvs : List (κ × V)) (k : κ) : (valV kvs k).isSome = (kvs.map (·.1)).any fun q => decide (q = k) := by
  rw [← valV_any, List.any_map]
  rfl
theorem str_one {t : Str} {c : Nat} (e : t.cps.toList = [c]) : t = ⟨#[c]⟩ := by
  cases t with
  | mk a =>
    have : a = #[c] := by
      cases a
      simpa using e
    rw [this]
theorem o_inX (c : Cf X) (neg : Bool) (f : Value → Value → Sem Value) (hL : OpR X f (fun x y H Q => ∃ d ds, Dp X.K H x d ∧ Dp X.K H y (.list ds) ∧ SeqAt.shaped d = true ∧ SeqAt.shaped (.list ds) = true ∧ Q (.bl ((ds.any fun z => PyData.eqv z d) != neg)) H))
    (hT : OpR X f (rIn X.K neg)) (hS : OpR X f (fun x y H Q => ∃ (c : Nat) (z : Str), x = .str ⟨#[c]⟩ ∧ y = .str z ∧ Q (.bl (decide (c ∈ z.cps.toList) != neg)) H)) (hD : OpR X f (rInDc neg)) : Op2R X f (inD neg) := by
  intro ρ M H x y v w Q Rl dx dy h
  have lists : ∀ {ds : List D} {a : Addr} {xs : List V}, SqL X.K H a xs → Dens X.K ρ H ds xs → flat x 64 = true → flat (.lst ds) 64 = true → Q (.bl (inLs x ds != neg)) H → ∃ r : R2, OpR X f r ∧ r v (.ref a) H Q := by
    intro ds a xs hs hd f1 f2 q
    refine ⟨_, hL, py x, pys ds, flat_dp x 64 v f1 dx, ?_, flat_shaped f1, ?_, ?_⟩
    · have z := f2
      simp only [flat, Bool.and_eq_true, decide_eq_true_eq] at z
      exact .lst hs (flats_dp ds 63 xs z.2 hd)
    · have z := flat_shaped f2
      unfold py at z
      exact z
    · rw [pys_any]
      exact q
  have dicts : ∀ {ks : List (Key × V)} {a : Addr} {k : Key}, H a = some (.dK ks) → keyOf x = some k → Q (.bl ((ks.map (·.1)).any (fun q => decide (q = k)) != neg)) H → ∃ r : R2, OpR X f r ∧ r v (.ref a) H Q := by
    intro ks a k hH hk q
    have e := keyOf_v hk dx
    subst e
    refine ⟨_, hD, a, valV ks k, rfl, DGet.k hH, ?_⟩
    rw [valV_some]
    cases neg <;> simpa using q
  unfold inD at h
  split at h
  · obtain ⟨a, xs, rfl, hs, hd⟩ := den_lst.mp dy
    split at h
    · rename_i z
      rw [Bool.and_eq_true] at z
      exact lists hs.sq hd z.1 z.2 (here Rl h (den_bl.mpr rfl))
    · exact h.elim
  · obtain ⟨a, xs, rfl, hs, hd⟩ := den_tup.mp dy
    split at h
    · rename_i z
      rw [Bool.and_eq_true] at z
      obtain ⟨e1, e2⟩ := vals_any z.1 dx z.2 hd
      refine ⟨_, hT, a, xs, rfl, .inr hs, scal_flat z.1 dx, e2, ?_⟩
      have q := here Rl h (den_bl.mpr rfl)
      unfold inV
      rw [e1]
      cases neg <;> simpa using q
    · exact h.elim
  · rename_i z
    rw [den_str] at dy
    subst dy
    split at h
    · rename_i t
      rw [den_str] at dx
      subst dx
      split at h
      · rename_i ch e
        rw [str_one e]
        exact ⟨_, hS, ch, z, rfl, rfl, here Rl h (den_bl.mpr rfl)⟩
      · exact h.elim
    · exact h.elim
  · obtain ⟨a, kvs, rfl, hH, _, e, _⟩ := den_dct.mp dy
    split at h
    · rename_i k hk
      refine dicts hH hk ?_
      rw [e]
      exact here Rl h (den_bl.mpr rfl)
    · exact h.elim
  · rename_i l
    obtain ⟨a, o, rfl, hl, ho⟩ := den_ref.mp dy
    split at h
    · rename_i ds hm
      obtain ⟨b, xs, h1, h2, h3⟩ := Rl.obj l _ hm
      rw [hl] at h1
      cases h1
      have e := ho b rfl
      subst e
      split at h
      · rename_i z
        rw [Bool.and_eq_true] at z
        exact lists (SqL.of h2) h3 z.1 z.2 (here Rl h (den_bl.mpr rfl))
      · exact h.elim
    · rename_i kvs hm
      obtain ⟨b, ks, h1, h2, h3⟩ := Rl.obj l _ hm
      rw [hl] at h1
      cases h1
      have e := ho b rfl
      subst e
      split at h
      · rename_i k hk
        refine dicts h2 hk ?_
        have q := here Rl h (den_bl.mpr rfl)
        have ek : ∀ {ps : List (Key × D)} {qs : List (Key × V)}, DenP X.K ρ H ps qs → (qs.map (·.1)).any (fun q => decide (q = k)) = ps.any (fun q => decide (q.1 = k)) := by
          intro ps qs hp
          induction hp with
          | nil => rfl
          | cons r _ ih =>
            rw [List.map_cons, List.any_cons, List.any_cons, ih, r.1]
        rw [ek h3]
        exact q
      · exact h.elim
    · exact h.elim
  · exact h.elim
theorem b_xf (b : Bool) : (b != false) = b := by cases b <;> rfl
theorem b_xt (b : Bool) : (b != true) = !b := by cases b <;> rfl
theorem o_in (c : Cf X) : Op2R X (compareOp .In) (inD false) := by
  refine o_inX c false _ ?_ op_in_seq ?_ (op_inDc (by have := c.hu; omega))
  · intro pins s σ H x y v u Q I rx ry ⟨d, ds, h1, h2, h3, h4, q⟩
    exact op_inD (by have := c.hu; omega) pins s σ H x y v u Q I rx ry ⟨d, ds, h1, h2, h3, h4, by rw [b_xf] at q; exact q⟩
  · intro pins s σ H x y v u Q I rx ry ⟨ch, z, h1, h2, q⟩
    exact op_in_sign pins s σ H x y v u Q I rx ry ⟨ch, z, h1, h2, by rw [b_xf] at q; exact q⟩
theorem o_notIn (c : Cf X) : Op2R X (compareOp .NotIn) (inD true) := by
  refine o_inX c true _ ?_ op_notIn_seq ?_ (op_notInDc (by have := c.hu; omega))
  · intro pins s σ H x y v u Q I rx ry ⟨d, ds, h1, h2, h3, h4, q⟩
    exact op_notInD (by have := c.hu; omega) pins s σ H x y v u Q I rx ry ⟨d, ds, h1, h2, h3, h4, by rw [b_xt] at q; exact q⟩
  · intro pins s σ H x y v u Q I rx ry ⟨ch, z, h1, h2, q⟩
    exact op_notIn_sign pins s σ H x y v u Q I rx ry ⟨ch, z, h1, h2, by rw [b_xt] at q; exact q⟩
end
end Mi

end

section
/-! Mi, sixth part: tests, and, or, not, one or the other, chains, items, slices. -/
namespace Mi
open PySem PySem.Spec PyProof.Rows L2

/-! ### truth -/
def truD (M : MH) : D → Option Bool
  | .non => some false
  | .bl b => some b
  | .int i => some (i != 0)
  | .str x => if x.length ≤ lim then some ((x.length : Int) != 0) else none
  | .tup ds => some (!ds.isEmpty)
  | .lst ds => some (!ds.isEmpty)
  | .dct ks _ => some (!ks.isEmpty)
  | .ref l => match M[l]? with
    | some (.lst ds) => some (!ds.isEmpty)
    | some (.dct kvs) => some (!kvs.isEmpty)
    | _ => none
  | _ => none
theorem dens_empty {K : PySem.W.Frag} {ρ : Rho} {H : Hp} {ds : List D} {xs : List V} (h : Dens K ρ H ds xs) : xs.isEmpty = ds.isEmpty := by
  cases ds with
  | nil => rw [dens_nil] at h; subst h; rfl
  | cons d ds => obtain ⟨v, r, rfl, _⟩ := dens_cons.mp h; rfl
theorem tru_v {K : PySem.W.Frag} {ρ : Rho} {M : MH} {H : Hp} (Rl : Rel K ρ M H) {d : D} {v : V} {b : Bool} (h : Den K ρ H d v) (t : truD M d = some b) : TruV K v H b := by
  cases d with
  | non => rw [den_non] at h; subst h; cases t; rfl
  | bl b => rw [den_bl] at h; subst h; cases t; rfl
  | int i => rw [den_int] at h; subst h; cases t; rfl
  | str x =>
    rw [den_str] at h
    subst h
    simp only [truD] at t
    split at t
    · rename_i z
      cases t
      exact ⟨lim_le z, rfl⟩
    · cases t
  | ty n => cases t
  | adr a => cases t
  | fn n => cases t
  | exo c hd ks ds => cases t
  | ref l =>
    obtain ⟨a, o, rfl, hl, ho⟩ := den_ref.mp h
    simp only [truD] at t
    split at t
    · rename_i ds hm
      obtain ⟨b, xs, h1, h2, h3⟩ := Rl.obj l _ hm
      rw [hl] at h1
      cases h1
      have e := ho b rfl
      subst e
      cases t
      exact .inl ⟨xs, SqL.of h2, by rw [dens_empty h3]⟩
    · rename_i kvs hm
      obtain ⟨b, ks, h1, h2, h3⟩ := Rl.obj l _ hm
      rw [hl] at h1
      cases h1
      have e := ho b rfl
      subst e
      cases t
      refine .inr (.inr ⟨ks, h2, ?_⟩)
      cases h3 <;> rfl
    · cases t
  | tup ds =>
    obtain ⟨a, xs, rfl, hs, hd⟩ := den_tup.mp h
    cases t
    exact .inr (.inl ⟨xs, hs, by rw [dens_empty hd]⟩)
  | lst ds =>
    obtain ⟨a, xs, rfl, hs, hd⟩ := den_lst.mp h
    cases t
    exact .inl ⟨xs, hs.sq, by rw [dens_empty hd]⟩
  | dct ks ds =>
    obtain ⟨a, kvs, rfl, hH, _, e, _⟩ := den_dct.mp h
    cases t
    refine .inr (.inr ⟨kvs, hH, ?_⟩)
    rw [← e]
    cases kvs <;> rfl

def mTru (m : ME) : MT := fun env M => (m env M).bind fun d M1 => match truD M1 d with
  | some b => .ok b M1
  | none => .err
def mB (m : ME) : MT := fun env M => (m env M).bind fun d M1 => match d with
  | .bl b => .ok b M1
  | _ => .err
section
variable {X : Cx} {W : WX}
def SW (X : Cx) (W : WX) (e : Expr) (m : MT) : Prop := PW X e (tm X.K DnB W m)
theorem hereB {K : PySem.W.Frag} {ρ : Rho} {M : MH} {H : Hp} {W : Value → Option Addr → Hp → Prop} {Q : Bool → Hp → Prop} {b : Bool} (Rl : Rel K ρ M H) (h : Ok K ρ H DnB W Q (.ok b M)) : Q b H :=
  h ρ H b (Stp.refl (K := K) (M := M)) Rl rfl
/-- any expression but a comparison, and, or, not: by its value's truth -/
theorem t_tru {e : Expr} {m : ME} (h : SE X W e m) (he : ∀ whole, isTrue e X.env whole = (do let v ← whole; standAt e.pos; holding [v] (truthy v)) := by intro _; rfl) : ST X W e (mTru m) := by
  refine pt_imp (pt_truth h he) fun σ H Q q => ?_
  refine tm_bind (f := fun d _ M1 => match truD M1 d with | some b => .ok b M1 | none => .err) q fun d M1 ρ1 H1 v env R1 E1 dv q => ?_
  split at q
  · rename_i b e
    exact ⟨b, tru_v R1 dv e, hereB R1 q⟩
  · exact q.elim
theorem s_pc {op : CmpOp} {g : Op2} {a b : Expr} {ma mb : ME} (o : Op2R X (compareOp op) g) (q : Quiet2 g) (ha : SE X W a ma) (hb : SE X W b mb) : PC X op a b (tm X.K (DnD X.K) W (m2 g ma mb)) := by
  refine ⟨fun pins s σ H Q I h => ?_⟩
  refine binT ha hb (R := fun v w H2 => ∃ r : R2, OpR X (compareOp op) r ∧ r v w H2 Q) I ?_ fun v u s2 x y H2 I2 rx ry ⟨r, hr, hq⟩ => hr pins s2 σ H2 x y v u Q I2 rx ry hq
  refine tm_bind (f := fun x env M1 => (mb env M1).bind fun y M2 => g x y M2) h fun x M1 ρ1 H1 v env R1 E1 dx h => ?_
  exact ⟨ρ1, M1, env, R1, E1, h.bind fun y M2 ρ2 H2 w _ S R2 dy h => o ρ2 M2 H2 x y v w Q R2 (Den.step R1 S _ _ dx) dy (ok_quiet (q x y M2) h)⟩
theorem mB_t {m : ME} {σ : L2.St} {H : Hp} {Q : Bool → Hp → Prop} (q : tm X.K DnB W (mB m) σ H Q) : tm X.K (DnD X.K) W m σ H (fun x H1 => ∃ c, x = V.bl c ∧ Q c H1) := by
  refine tm_bind (f := fun d _ M1 => match d with | .bl b => .ok b M1 | _ => .err) q fun d M1 ρ1 H1 v env R1 E1 dv q => ?_
  split at q
  · rw [show v = _ from den_bl.mp dv]
    exact ⟨_, rfl, hereB R1 q⟩
  · exact q.elim
theorem t_cmp {op : CmpOp} {g : Op2} {a b : Expr} {pos : Pos} {ma mb : ME} (o : Op2R X (compareOp op) g) (q : Quiet2 g) (ha : SE X W a ma) (hb : SE X W b mb) (hm : behindInMarks op b = false) : ST X W (.Compare a [op] [b] pos) (mB (m2 g ma mb)) :=
  pt_imp (pt_cmp (s_pc o q ha hb) hm) fun _ _ _ h => mB_t h
def mNotT (m : MT) : MT := fun env M => (m env M).bind fun b M1 => .ok (!b) M1
theorem t_not {a : Expr} {pos : Pos} {m : MT} (h : ST X W a m) : ST X W (.UnaryOp .Not a pos) (mNotT m) := by
  refine pt_imp (pt_not h) fun σ H Q q => ?_
  refine tm_bind (f := fun b _ M1 => .ok (!b) M1) q fun b M1 ρ1 H1 v env R1 E1 dv q => ?_
  cases (show b = v from dv)
  exact hereB R1 q
def mAndT (a b : MT) : MT := fun env M => (a env M).bind fun c M1 => if c = true then b env M1 else .ok false M1
def mOrT (a b : MT) : MT := fun env M => (a env M).bind fun c M1 => if c = true then .ok true M1 else b env M1
theorem w_and1 {a : Expr} {pos : Pos} {m : MT} (h : ST X W a m) : SW X W (.BoolOp .And [a] pos) m := pw_and1 h
theorem w_or1 {a : Expr} {pos : Pos} {m : MT} (h : ST X W a m) : SW X W (.BoolOp .Or [a] pos) m := pw_or1 h
theorem pw_imp {e : Expr} {t t' : TT} (h : PW X e t) (i : ∀ σ H Q, t' σ H Q → t σ H Q) : PW X e t' := ⟨fun wh pins s σ H Q I q => h.run wh pins s σ H Q I (i σ H Q q)⟩
theorem w_and {a b : Expr} {rest : List Expr} {pos : Pos} {ma mb : MT} (ha : ST X W a ma) (hb : SW X W (.BoolOp .And (b :: rest) pos) mb) : SW X W (.BoolOp .And (a :: b :: rest) pos) (mAndT ma mb) := by
  refine pw_imp (pw_and ha hb) fun σ H Q q => ?_
  refine tm_bind (f := fun c env M1 => if c = true then mb env M1 else .ok false M1) q fun c M1 ρ1 H1 v env R1 E1 dv q => ?_
  cases (show c = v from dv)
  cases c with
  | true => exact ⟨ρ1, M1, env, R1, E1, q⟩
  | false => exact hereB R1 q
theorem w_or {a b : Expr} {rest : List Expr} {pos : Pos} {ma mb : MT} (ha : ST X W a ma) (hb : SW X W (.BoolOp .Or (b :: rest) pos) mb) : SW X W (.BoolOp .Or (a :: b :: rest) pos) (mOrT ma mb) := by
  refine pw_imp (pw_or ha hb) fun σ H Q q => ?_
  refine tm_bind (f := fun c env M1 => if c = true then .ok true M1 else mb env M1) q fun c M1 ρ1 H1 v env R1 E1 dv q => ?_
  cases (show c = v from dv)
  cases c with
  | true => exact hereB R1 q
  | false => exact ⟨ρ1, M1, env, R1, E1, q⟩
theorem t_w {e : Expr} {m : MT} (h : SW X W e m) : ST X W e m := PW.pt h

/-! ### the same as values -/
def mAnd (a b : ME) : ME := fun env M => (a env M).bind fun x M1 => match truD M1 x with
  | some true => b env M1
  | some false => .ok x M1
  | none => .err
def mOr (a b : ME) : ME := fun env M => (a env M).bind fun x M1 => match truD M1 x with
  | some true => .ok x M1
  | some false => b env M1
  | none => .err
theorem s_one {op : BoolOp} {a : Expr} {pos : Pos} {m : ME} (h : SE X W a m) : SE X W (.BoolOp op [a] pos) m := pe_one h
theorem s_and {a b : Expr} {rest : List Expr} {pos : Pos} {ma mb : ME} (ha : SE X W a ma) (hb : SE X W (.BoolOp .And (b :: rest) pos) mb) : SE X W (.BoolOp .And (a :: b :: rest) pos) (mAnd ma mb) := by
  refine pe_imp (pe_andT ha hb) fun σ H Q q => ?_
  refine tm_bind (f := fun x env M1 => match truD M1 x with | some true => mb env M1 | some false => .ok x M1 | none => .err) q fun x M1 ρ1 H1 v env R1 E1 dv q => ?_
  split at q
  · rename_i e
    exact ⟨true, tru_v R1 dv e, ⟨ρ1, M1, env, R1, E1, q⟩⟩
  · rename_i e
    exact ⟨false, tru_v R1 dv e, here R1 q dv⟩
  · exact q.elim
theorem s_or {a b : Expr} {rest : List Expr} {pos : Pos} {ma mb : ME} (ha : SE X W a ma) (hb : SE X W (.BoolOp .Or (b :: rest) pos) mb) : SE X W (.BoolOp .Or (a :: b :: rest) pos) (mOr ma mb) := by
  refine pe_imp (pe_orT ha hb) fun σ H Q q => ?_
  refine tm_bind (f := fun x env M1 => match truD M1 x with | some true => .ok x M1 | some false => mb env M1 | none => .err) q fun x M1 ρ1 H1 v env R1 E1 dv q => ?_
  split at q
  · rename_i e
    exact ⟨true, tru_v R1 dv e, here R1 q dv⟩
  · rename_i e
    exact ⟨false, tru_v R1 dv e, ⟨ρ1, M1, env, R1, E1, q⟩⟩
  · exact q.elim
def notD : Op1 := fun x M => match truD M x with
  | some b => .ok (.bl (!b)) M
  | none => .err
theorem s_not {a : Expr} {pos : Pos} {m : ME} (h : SE X W a m) : SE X W (.UnaryOp .Not a pos) (m1 notD m) := by
  refine pe_imp (pe_notT h) fun σ H Q q => ?_
  refine tm_bind (f := fun x _ M1 => notD x M1) q fun x M1 ρ1 H1 v env R1 E1 dv q => ?_
  unfold notD at q
  split at q
  · rename_i b e
    exact ⟨b, tru_v R1 dv e, here R1 q (den_bl.mpr rfl)⟩
  · exact q.elim
def mIf (c : MT) (a b : ME) : ME := fun env M => (c env M).bind fun k M1 => if k = true then a env M1 else b env M1
theorem s_if {c a b : Expr} {pos : Pos} {mc : MT} {ma mb : ME} (hc : ST X W c mc) (ha : SE X W a ma) (hb : SE X W b mb) : SE X W (.IfExp c a b pos) (mIf mc ma mb) := by
  refine pe_imp (pe_ifExp hc ha hb) fun σ H Q q => ?_
  refine tm_bind (f := fun k env M1 => if k = true then ma env M1 else mb env M1) q fun k M1 ρ1 H1 v env R1 E1 dv q => ?_
  cases (show k = v from dv)
  cases k with
  | true => exact ⟨ρ1, M1, env, R1, E1, q⟩
  | false => exact ⟨ρ1, M1, env, R1, E1, q⟩
/-! ### a <= b <= c, of whole numbers -/
def chainD (g g' : Int → Int → Bool) (c : ME) (env : En) (x y : D) (M : MH) : R D := match x, y with
  | .int i, .int j => if g i j = true then (c env M).bind fun z M3 => match z with
      | .int k => .ok (.bl (g' j k)) M3
      | _ => .err
    else .ok (.bl false) M
  | _, _ => .err
def mChain (g g' : Int → Int → Bool) (a b c : ME) : ME := fun env M => (a env M).bind fun x M1 => (b env M1).bind fun y M2 => chainD g g' c env x y M2
theorem chain_o {g g' : Int → Int → Bool} {c : Expr} {mc : ME} {σ : L2.St} {Q : VK} {ρ : Rho} {M : MH} {H : Hp} {env : En} {x y : D} {v w : V} (Rl : Rel X.K ρ M H) (E : EnR X.K ρ H env σ) (dx : Den X.K ρ H x v) (dy : Den X.K ρ H y w)
    (h : Ok X.K ρ H (DnD X.K) (fun c d H' => W c d σ H') Q (chainD g g' mc env x y M)) : rI0 (fun i j => .bl (g i j)) v w H fun z H3 => ∃ k, z = .bl k ∧ (if k = true then tm X.K (DnD X.K) W mc σ H3 fun w' H4 => rI0 (fun i j => .bl (g' i j)) w w' H4 Q else Q (.bl false) H3) := by
  unfold chainD at h
  split at h
  · rename_i i j
    rw [den_int] at dx dy
    subst dx dy
    refine ⟨i, j, rfl, rfl, g i j, rfl, ?_⟩
    split at h
    · rename_i z
      rw [z, if_pos rfl]
      refine ⟨ρ, M, env, Rl, E, h.bind fun z M3 ρ3 H3 u _ S3 R3 dz h => ?_⟩
      cases z <;> first
        | exact h.elim
        | (rw [show u = _ from den_int.mp dz]; exact ⟨_, _, rfl, rfl, here R3 h (den_bl.mpr rfl)⟩)
    · rename_i z
      rw [show g i j = false by simpa using z, if_neg (by decide)]
      exact here Rl h (den_bl.mpr rfl)
  · exact h.elim
theorem chain_t {g g' : Int → Int → Bool} {ma mb mc : ME} {σ : L2.St} {H : Hp} {Q : VK} (h : tm X.K (DnD X.K) W (mChain g g' ma mb mc) σ H Q) :
    tChain (rI0 fun i j => .bl (g i j)) (rI0 fun i j => .bl (g' i j)) (tm X.K (DnD X.K) W ma) (tm X.K (DnD X.K) W mb) (tm X.K (DnD X.K) W mc) σ H Q := by
  refine tm_bind (f := fun x env M1 => (mb env M1).bind fun y M2 => chainD g g' mc env x y M2) h fun x M1 ρ1 H1 v env R1 E1 dx h => ?_
  exact ⟨ρ1, M1, env, R1, E1, h.bind fun y M2 ρ2 H2 w _ S R2 dy h => chain_o (c := .Constant .none 0 ⟨0, 0, 0, 0⟩) R2 (E1.step R1 S) (Den.step R1 S _ _ dx) dy h⟩
theorem s_chain {op op' : CmpOp} {g g' : Int → Int → Bool} {a b c : Expr} {pos : Pos} {ma mb mc : ME} (o : OpR X (compareOp op) (rI0 fun i j => .bl (g i j))) (o' : OpR X (compareOp op') (rI0 fun i j => .bl (g' i j))) (ha : SE X W a ma) (hb : SE X W b mb) (hc : SE X W c mc)
    (hm : lastMarks [op, op'] [b, c] = false := by with_unfolding_all rfl) : SE X W (.Compare a [op, op'] [b, c] pos) (mChain g g' ma mb mc) :=
  pe_imp (pe_chain o o' ha hb hc hm) fun _ _ _ h => chain_t h
theorem t_chain {op op' : CmpOp} {g g' : Int → Int → Bool} {a b c : Expr} {pos : Pos} {ma mb mc : ME} (o : OpR X (compareOp op) (rI0 fun i j => .bl (g i j))) (o' : OpR X (compareOp op') (rI0 fun i j => .bl (g' i j))) (ha : SE X W a ma) (hb : SE X W b mb) (hc : SE X W c mc)
    (hm : lastMarks [op, op'] [b, c] = false := by with_unfolding_all rfl) : ST X W (.Compare a [op, op'] [b, c] pos) (mB (mChain g g' ma mb mc)) := by
  refine pt_imp (pt_chain o o' ha hb hc hm) fun σ H Q h => ?_
  exact chain_t (Q := fun x H1 => ∃ c, x = V.bl c ∧ Q c H1) (mB_t h)

/-! ### items -/
def dctGet (ks : List Key) (ds : List D) (k : Key) : Option D := ((ks.zip ds).find? fun p => decide (p.1 = k)).map (·.2)
def ixD : Op2 := fun x y M => match x with
  | .tup ds => match y with
    | .int i => match atI ds i with
      | some d => .ok d M
      | none => .err
    | _ => .err
  | .lst ds => match y with
    | .int i => match atI ds i with
      | some d => .ok d M
      | none => .err
    | _ => .err
  | .str z => match y with
    | .int i => match atI z.cps.toList i with
      | some c => if z.length ≤ lim then .ok (.str ⟨#[c]⟩) M else .err
      | none => .err
    | _ => .err
  | .dct ks ds => match keyOf y with
    | some k => match dctGet ks ds k with
      | some d => .ok d M
      | none => .err
    | none => .err
  | .ref l => match M[l]? with
    | some (.lst ds) => match y with
      | .int i => match atI ds i with
        | some d => .ok d M
        | none => .err
      | _ => .err
    | some (.dct kvs) => match keyOf y with
      | some k => match (kvs.find? fun p => decide (p.1 = k)).map (·.2) with
        | some d => .ok d M
        | none => .err
      | none => .err
    | _ => .err
  | _ => .err
theorem q_ix : Quiet2 ixD := by
  intro x y M c fs M' e
  unfold ixD at e
  (repeat' split at e) <;> cases e
theorem atI_den {K : PySem.W.Frag} {ρ : Rho} {H : Hp} {ds : List D} {xs : List V} {i : Int} {d : D} (h : Dens K ρ H ds xs) (e : atI ds i = some d) : ∃ v, atI xs i = some v ∧ Den K ρ H d v := by
  unfold atI at e ⊢
  rw [← h.length]
  cases q : ixN ds.length i with
  | none => rw [q] at e; cases e
  | some j =>
    rw [q] at e
    exact h.get e
theorem denP_get {κ : Type} [DecidableEq κ] {K : PySem.W.Frag} {ρ : Rho} {H : Hp} {ps : List (κ × D)} {qs : List (κ × V)} (h : DenP K ρ H ps qs) {k : κ} {d : D} (e : (ps.find? fun p => decide (p.1 = k)).map (·.2) = some d) : ∃ v, valV qs k = some v ∧ Den K ρ H d v := by
  induction h with
  | nil => cases e
  | @cons p q ps qs r _ ih =>
    unfold valV
    rw [List.find?_cons] at e ⊢
    rw [← r.1]
    by_cases z : p.1 = k
    · rw [decide_eq_true z] at e ⊢
      cases e
      exact ⟨_, rfl, r.2⟩
    · rw [decide_eq_false z] at e ⊢
      exact ih e
theorem denP_zip {K : PySem.W.Frag} {ρ : Rho} {H : Hp} : ∀ {ds : List D} {kvs : List (Key × V)}, Dens K ρ H ds (kvs.map (·.2)) → DenP K ρ H ((kvs.map (·.1)).zip ds) kvs
  | [], kvs, h => by
    rw [dens_nil] at h
    have e : kvs = [] := by simpa using h
    subst e
    exact .nil
  | d :: ds, kvs, h => by
    obtain ⟨v, r, e, h1, h2⟩ := dens_cons.mp h
    cases kvs with
    | nil => cases e
    | cons p kvs =>
      simp only [List.map_cons, List.cons.injEq] at e
      obtain ⟨e1, e2⟩ := e
      subst e1 e2
      exact .cons ⟨rfl, h1⟩ (denP_zip h2)
/-- an item's rule, by values -/
def IxD (X : Cx) (a b : Expr) (v w : V) (H : Hp) (Q : VK) : Prop := ∀ (pins : List (Addr × Obj)) (s : Shared) (σ : L2.St) (u z : Value), Inv X pins σ H s → RelV v u → RelV w z → (∀ o i, subscripted b false o i = operate [o, i] (getItem o i)) → wpAny (model X.prog X.w) X.A (subscriptTail a b u z) (EP X pins σ Q) X.xe s
theorem ixd_of {a b : Expr} {r : R2} {v w : V} {H : Hp} {Q : VK} (hr : IxR X r) (h : r v w H Q) : IxD X a b v w H Q := fun pins s σ u z I rv rw hs => hr a b pins s σ H v w u z Q I rv rw h (hs _ _)
theorem ixd_dict {a b : Expr} {p : Addr} {w : V} {x : V} {H : Hp} {Q : VK} (hu : X.A.units + 1 < cLine) (g : DGet H p w (some x)) (q : Q x H) : IxD X a b (.ref p) w H Q := fun pins s σ u z I rv rw hs => by
  obtain rfl : u = Value.ref p := rv
  exact tail_any (dict_typeIs I g) PySem.F.slot_dict_getitem.lookup (d_getItem hu I g rw fun w' s3 I3 rw' => ⟨x, H, I3, rw', q⟩) (hs _ _)
theorem o_ix (c : Cf X) {a b : Expr} {ρ : Rho} {M : MH} {H : Hp} {x y : D} {v w : V} {Q : VK} (R2 : Rel X.K ρ M H) (dx : Den X.K ρ H x v) (dy : Den X.K ρ H y w) (h : ROk X.K ρ H Q (ixD x y M)) : IxD X a b v w H Q := by
  have hu : X.A.units + 1 < cLine := by have := c.hu; omega
  unfold ixD at h
  split at h
  · obtain ⟨p, xs, rfl, hs, hd⟩ := den_tup.mp dx
    split at h
    · rename_i i
      rw [den_int] at dy
      subst dy
      split at h
      · rename_i d e
        obtain ⟨v, e2, dv⟩ := atI_den hd e
        exact ixd_of ix_tup ⟨p, xs, i, v, rfl, rfl, hs, e2, here R2 h dv⟩
      · exact h.elim
    · exact h.elim
  · obtain ⟨p, xs, rfl, hs, hd⟩ := den_lst.mp dx
    split at h
    · rename_i i
      rw [den_int] at dy
      subst dy
      split at h
      · rename_i d e
        obtain ⟨v, e2, dv⟩ := atI_den hd e
        exact ixd_of ix_list ⟨p, xs, i, v, rfl, rfl, hs.sq, e2, here R2 h dv⟩
      · exact h.elim
    · exact h.elim
  · rename_i z
    rw [den_str] at dx
    subst dx
    split at h
    · rename_i i
      rw [den_int] at dy
      subst dy
      split at h
      · rename_i ch e
        split at h
        · rename_i zl
          exact ixd_of ix_str ⟨z, i, ch, rfl, rfl, lim_le zl, e, here R2 h (den_str.mpr rfl)⟩
        · exact h.elim
      · exact h.elim
    · exact h.elim
  · rename_i ks ds
    obtain ⟨p, kvs, rfl, hH, _, e, hd⟩ := den_dct.mp dx
    split at h
    · rename_i k hk
      split at h
      · rename_i d hg
        unfold dctGet at hg
        rw [← e] at hg
        obtain ⟨v, e2, dv⟩ := denP_get (denP_zip hd) hg
        rw [keyOf_v hk dy]
        exact ixd_dict hu (e2 ▸ DGet.k hH) (here R2 h dv)
      · exact h.elim
    · exact h.elim
  · rename_i l
    obtain ⟨p, o, rfl, hl, ho⟩ := den_ref.mp dx
    split at h
    · rename_i ds hm
      obtain ⟨b, xs, h1, h2, h3⟩ := R2.obj l _ hm
      rw [hl] at h1
      cases h1
      have e := ho b rfl
      subst e
      split at h
      · rename_i i
        rw [den_int] at dy
        subst dy
        split at h
        · rename_i d e
          obtain ⟨v, e2, dv⟩ := atI_den h3 e
          exact ixd_of ix_list ⟨_, xs, i, v, rfl, rfl, SqL.of h2, e2, here R2 h dv⟩
        · exact h.elim
      · exact h.elim
    · rename_i kvs hm
      obtain ⟨b, ks, h1, h2, h3⟩ := R2.obj l _ hm
      rw [hl] at h1
      cases h1
      have e := ho b rfl
      subst e
      split at h
      · rename_i k hk
        split at h
        · rename_i d hg
          obtain ⟨v, e2, dv⟩ := denP_get h3 hg
          rw [keyOf_v hk dy]
          exact ixd_dict hu (e2 ▸ DGet.k h2) (here R2 h dv)
        · exact h.elim
      · exact h.elim
    · exact h.elim
  · exact h.elim
theorem s_ix (c : Cf X) {a b : Expr} {pos : Pos} {ma mb : ME} (ha : SE X W a ma) (hb : SE X W b mb) (hs : ∀ o i, subscripted b false o i = operate [o, i] (getItem o i) := by intro _ _; rfl) : SE X W (.Subscript a b pos) (m2 ixD ma mb) := by
  refine ⟨fun pins s σ H Q I h => ?_⟩
  refine Subscript_ (binT ha hb (R := fun v w H2 => IxD X a b v w H2 Q) I ?_ fun v u s2 x y H2 I2 rx ry hr => hr pins s2 σ v u I2 rx ry hs)
  refine tm_bind (f := fun x env M1 => (mb env M1).bind fun y M2 => ixD x y M2) h fun x M1 ρ1 H1 v env R1 E1 dx h => ?_
  exact ⟨ρ1, M1, env, R1, E1, h.bind fun y M2 ρ2 H2 w _ S R2 dy h => o_ix c R2 (Den.step R1 S _ _ dx) dy (ok_quiet (q_ix x y M2) h)⟩
end
end Mi

end

section
/-! Mi, seventh part: displays, cells made and written, what is walked, comprehensions. -/
namespace Mi
open PySem PySem.Spec PyProof.Rows L2
section
variable {K : PySem.W.Frag} {ρ : Rho} {M : MH} {H : Hp}

/-! ### cells -/
/-- a cell is written -/
theorem Stp.write {l : Nat} {a : Addr} {o : HO} (hl : ρ.c[l]? = some (some a)) : Stp ρ H ρ (upd H a o) :=
  ⟨fun _ _ h => .inl h, fun _ h => .inl h, fun b u h n => by
    have ne : b ≠ a := fun e => n (e ▸ mem_of_get hl)
    rw [upd_ne ne]
    exact h, rfl⟩
theorem Rel.write (Rl : Rel K ρ M H) {l : Nat} {a : Addr} {o : HO} {mo : MO} (hl : ρ.c[l]? = some (some a)) (new : ObjD K ρ (upd H a o) l mo) : Rel K ρ (M.set l mo) (upd H a o) where
  len := by rw [List.length_set]; exact Rl.len
  hid := fun b m => by
    obtain ⟨n, xs, e⟩ := Rl.hid b m
    exact ⟨n, xs, (Stp.write (ρ := ρ) (H := H) (o := o) hl).keep b _ e n⟩
  inj := Rl.inj
  obj := fun j u e => by
    by_cases q : l = j
    · subst q
      have hlen : l < M.length := by
        rw [← Rl.len]
        exact (List.getElem?_eq_some_iff.mp hl).1
      rw [List.getElem?_set_self hlen] at e
      cases e
      exact new
    · rw [List.getElem?_set_ne q] at e
      have S : Stp ρ H ρ (upd H a o) := Stp.write hl
      have x := Rl.obj j u e
      have ne : ∀ b, ρ.c[j]? = some (some b) → b ≠ a := fun b h1 e => by
        subst e
        exact q (Rl.inj l j b hl h1)
      cases u with
      | lst ds =>
        obtain ⟨b, xs, h1, h2, h3⟩ := x
        exact ⟨b, xs, h1, by rw [upd_ne (ne b h1)]; exact h2, Dens.step Rl S _ _ h3⟩
      | dct kvs =>
        obtain ⟨b, xs, h1, h2, h3⟩ := x
        exact ⟨b, xs, h1, by rw [upd_ne (ne b h1)]; exact h2, DenP.step Rl S h3⟩
      | ins C fs =>
        obtain ⟨b, Ca, dx, gs, h1, cn, h2, h3⟩ := x
        exact ⟨b, Ca, dx, gs, h1, cn, by rw [upd_ne (ne b h1)]; exact h2, DenP.step Rl S h3⟩
      | gone => exact x
/-- a new cell -/
theorem get_last {α : Type} {xs : List α} {a : α} : (xs ++ [a])[xs.length]? = some a := by
  rw [List.getElem?_append_right (Nat.le_refl _), Nat.sub_self]
  rfl
theorem get_front {α : Type} {xs : List α} {a b : α} {i : Nat} (h : xs[i]? = some b) : (xs ++ [a])[i]? = some b := by
  rw [List.getElem?_append_left (List.getElem?_eq_some_iff.mp h).1]
  exact h
/-- one cell more -/
def Rho.add (ρ : Rho) (p : Addr) : Rho := ⟨ρ.c ++ [some p], ρ.h⟩
theorem Stp.cell {p : Addr} {o : HO} (hp : H p = none) : Stp ρ H (ρ.add p) (upd H p o) :=
  ⟨fun _ _ h => .inl (get_front h), fun a h => by
    rcases List.mem_append.mp h with h | h
    · exact .inl h
    · have e : some a = some p := by simpa using h
      cases e
      exact .inr hp, fun a u h _ => by rw [upd_ne (ne_of_none h hp)]; exact h, rfl⟩
theorem Rel.cell (Rl : Rel K ρ M H) {p : Addr} {o : HO} {mo : MO} (hp : H p = none) (new : ObjD K (ρ.add p) (upd H p o) M.length mo) : Rel K (ρ.add p) (M ++ [mo]) (upd H p o) where
  len := by
    show (ρ.c ++ [some p]).length = _
    rw [List.length_append, List.length_append, Rl.len]; rfl
  hid := fun a m => by
    obtain ⟨n, xs, e⟩ := Rl.hid a m
    have ne := ne_of_none e hp
    refine ⟨fun z => ?_, xs, by rw [upd_ne ne]; exact e⟩
    rcases List.mem_append.mp z with z | z
    · exact n z
    · exact ne (Option.some.inj (List.mem_singleton.mp z))
  inj := fun i j a h1 h2 => by
    have h1 : (ρ.c ++ [some p])[i]? = some (some a) := h1
    have h2 : (ρ.c ++ [some p])[j]? = some (some a) := h2
    have hf := Rl.fresh hp
    have side : ∀ k : Nat, (ρ.c ++ [some p])[k]? = some (some a) → ρ.c[k]? = some (some a) ∨ (k = ρ.c.length ∧ a = p) := fun k h => by
      by_cases hk : k < ρ.c.length
      · rw [List.getElem?_append_left hk] at h
        exact .inl h
      · have hk2 := (List.getElem?_eq_some_iff.mp h).1
        rw [List.length_append] at hk2
        have hk3 : k = ρ.c.length := by
          have : [some p].length = 1 := rfl
          omega
        subst hk3
        rw [get_last] at h
        cases h
        exact .inr ⟨rfl, rfl⟩
    rcases side i h1 with q | ⟨q, e⟩ <;> rcases side j h2 with r | ⟨r, f⟩
    · exact Rl.inj i j a q r
    · subst f; exact absurd (mem_of_get q) hf
    · subst e; exact absurd (mem_of_get r) hf
    · rw [q, r]
  obj := fun j u e => by
    have S : Stp ρ H (ρ.add p) (upd H p o) := Stp.cell hp
    by_cases hj : j < M.length
    · rw [List.getElem?_append_left hj] at e
      have x := Rl.obj j u e
      cases u with
      | lst ds =>
        obtain ⟨b, xs, h1, h2, h3⟩ := x
        exact ⟨b, xs, get_front h1, by rw [upd_ne (ne_of_none h2 hp)]; exact h2, Dens.step Rl S _ _ h3⟩
      | dct kvs =>
        obtain ⟨b, xs, h1, h2, h3⟩ := x
        exact ⟨b, xs, get_front h1, by rw [upd_ne (ne_of_none h2 hp)]; exact h2, DenP.step Rl S h3⟩
      | ins C fs =>
        obtain ⟨b, Ca, dx, gs, h1, cn, h2, h3⟩ := x
        exact ⟨b, Ca, dx, gs, get_front h1, cn, by rw [upd_ne (ne_of_none h2 hp)]; exact h2, DenP.step Rl S h3⟩
      | gone => exact get_front x
    · have hj2 := (List.getElem?_eq_some_iff.mp e).1
      rw [List.length_append] at hj2
      have hj3 : j = M.length := by
        have : [mo].length = 1 := rfl
        omega
      subst hj3
      rw [get_last] at e
      cases e
      exact new
theorem Rel.lastAt (Rl : Rel K ρ M H) {p : Addr} : (ρ.add p).c[M.length]? = some (some p) := by
  show (ρ.c ++ [some p])[M.length]? = _
  rw [← Rl.len]
  exact get_last
theorem newC {W : Value → Option Addr → Hp → Prop} {Q : VK} {ds : List D} {xs : List V} (Rl : Rel K ρ M H) (h : Ok K ρ H (DnD K) W Q (.ok (.ref M.length) (M ++ [.lst ds]))) (e : Dens K ρ H ds xs) : ∀ p, H p = none → Q (.ref p) (upd H p (.lst xs)) := fun p hp => by
  have S : Stp ρ H (ρ.add p) (upd H p (.lst xs)) := Stp.cell hp
  exact h _ _ _ S (Rl.cell hp ⟨p, xs, Rl.lastAt, upd_same, Dens.step Rl S _ _ e⟩) (den_ref.mpr ⟨p, some p, rfl, Rl.lastAt, fun b e => Option.some.inj e.symm⟩)
end

section
variable {X : Cx} {W : WX}
/-! ### displays -/
def tupD : OpN := fun ds M => if ds.length ≤ lim then .ok (.tup ds) M else .err
def lstD : OpN := fun ds M => if ds.length ≤ lim then .ok (.lst ds) M else .err
/-- a list that may change -/
def celD : OpN := fun ds M => if ds.length ≤ lim then .ok (.ref M.length) (M ++ [.lst ds]) else .err
theorem s_tup {es : List Expr} {k : Nat} {pos : Pos} {ma : MA} (h : SA X W es ma) : SE X W (.Tuple es k pos) (mN tupD ma) := by
  refine pe_imp (pe_tup h) fun σ H Q q => ?_
  refine tm_bind (f := fun ds _ M1 => tupD ds M1) q fun ds M1 ρ1 H1 vs env R1 E1 dv q => ?_
  unfold tupD at q
  split at q
  · rename_i z
    exact ⟨by rw [← Dens.length dv]; exact lim_le z, newT R1 q dv⟩
  · exact q.elim
theorem s_lst {es : List Expr} {pos : Pos} {ma : MA} (h : SA X W es ma) : SE X W (.List es pos) (mN lstD ma) := by
  refine pe_imp (pe_lst h) fun σ H Q q => ?_
  refine tm_bind (f := fun ds _ M1 => lstD ds M1) q fun ds M1 ρ1 H1 vs env R1 E1 dv q => ?_
  unfold lstD at q
  split at q
  · rename_i z
    exact ⟨by rw [← Dens.length dv]; exact lim_le z, newL R1 q dv⟩
  · exact q.elim
theorem s_cel {es : List Expr} {pos : Pos} {ma : MA} (h : SA X W es ma) : SE X W (.List es pos) (mN celD ma) := by
  refine pe_imp (pe_lst h) fun σ H Q q => ?_
  refine tm_bind (f := fun ds _ M1 => celD ds M1) q fun ds M1 ρ1 H1 vs env R1 E1 dv q => ?_
  unfold celD at q
  split at q
  · rename_i z
    exact ⟨by rw [← Dens.length dv]; exact lim_le z, newC R1 q dv⟩
  · exact q.elim

/-! ### what is walked -/
/-- J gives the items, one a turn, whatever is done to cells meanwhile -/
structure Wk (K : PySem.W.Frag) (ρ1 : Rho) (H1 : Hp) (J : It) (items : List D) : Prop where
  goes : ∀ (i : Nat) ρ' M' H', i < items.length → Rel K ρ' M' H' → Tr ρ1 H1 ρ' H' → J.go i H'
  stops : ∀ ρ' M' H', Rel K ρ' M' H' → Tr ρ1 H1 ρ' H' → J.stop items.length H'
  yields : ∀ (i : Nat) ρ' M' H' x H'' (d : D), items[i]? = some d → Rel K ρ' M' H' → Tr ρ1 H1 ρ' H' → J.yld i H' x H'' → Rel K ρ' M' H'' ∧ Stp ρ' H' ρ' H'' ∧ Den K ρ' H'' d x
abbrev DnI (K : PySem.W.Frag) : Rho → Hp → List D → It → Prop := fun ρ H ds J => Wk K ρ H J ds
def SI (X : Cx) (W : WX) (tg e : Expr) (m : MA) : Prop := PI X tg e (tm X.K (DnI X.K) W m)
def signs (x : Str) : List D := x.cps.toList.map fun c => .str ⟨#[c]⟩
def itemsD : D → MH → R (List D) := fun d M => match d with
  | .tup ds => .ok ds M
  | .lst ds => .ok ds M
  | .str z => .ok (signs z) M
  | _ => .err
def mItems (m : ME) : MA := fun env M => (m env M).bind fun d M1 => itemsD d M1
theorem wk_tup {K : PySem.W.Frag} {ρ : Rho} {M : MH} {H : Hp} {a : Addr} {ds : List D} {xs : List V} (Rl : Rel K ρ M H) (hs : SqT K H a xs) (hd : Dens K ρ H ds xs) : Wk K ρ H (Itt K a) ds where
  goes := fun i ρ' M' H' hi R' S => walk_tup.goes i H' (by rw [← hd.length]; exact hi) (SqT.tr S hs)
  stops := fun ρ' M' H' R' S => by
    rw [hd.length]
    exact walk_tup.stops H' (SqT.tr S hs)
  yields := fun i ρ' M' H' x H'' d hd' R' S y => by
    obtain ⟨v, h1, h2⟩ := hd.get hd'
    obtain ⟨e1, e2⟩ := walk_tup.yields i H' x H'' ((List.getElem?_eq_some_iff.mp h1).1) (SqT.tr S hs) y
    subst e1
    rw [h1] at e2
    cases e2
    exact ⟨R', Stp.refl (K := K) (M := M), Den.tr S _ _ h2⟩
theorem wk_lst {K : PySem.W.Frag} {ρ : Rho} {M : MH} {H : Hp} {a : Addr} {ds : List D} {xs : List V} (Rl : Rel K ρ M H) (hs : LsV K ρ H a xs) (hd : Dens K ρ H ds xs) : Wk K ρ H (Itl K a) ds where
  goes := fun i ρ' M' H' hi R' S => walk_list.goes i H' (by rw [← hd.length]; exact hi) (hs.tr S).sq
  stops := fun ρ' M' H' R' S => by
    rw [hd.length]
    exact walk_list.stops H' (hs.tr S).sq
  yields := fun i ρ' M' H' x H'' d hd' R' S y => by
    obtain ⟨v, h1, h2⟩ := hd.get hd'
    obtain ⟨e1, e2⟩ := walk_list.yields i H' x H'' ((List.getElem?_eq_some_iff.mp h1).1) (hs.tr S).sq y
    subst e1
    rw [h1] at e2
    cases e2
    exact ⟨R', Stp.refl (K := K) (M := M), Den.tr S _ _ h2⟩
theorem signs_get {z : Str} {i : Nat} {d : D} (h : (signs z)[i]? = some d) : ∃ c, z.cps[i]? = some c ∧ d = .str ⟨#[c]⟩ := by
  unfold signs at h
  rw [List.getElem?_map] at h
  obtain ⟨c, h1, h2⟩ := Option.map_eq_some_iff.mp h
  exact ⟨c, by simpa using h1, h2.symm⟩
theorem signs_len (z : Str) : (signs z).length = z.cps.size := by simp [signs]
theorem wk_str {K : PySem.W.Frag} {ρ : Rho} {M : MH} {H : Hp} {z : Str} : Wk K ρ H (Its z) (signs z) where
  goes := fun i ρ' M' H' hi _ _ => by
    rw [signs_len] at hi
    exact hi
  stops := fun ρ' M' H' _ _ => by
    rw [signs_len]
    exact Nat.le_refl _
  yields := fun i ρ' M' H' x H'' d hd R' S y => by
    obtain ⟨e1, c, hc, e2⟩ := y
    obtain ⟨c', hc', e3⟩ := signs_get hd
    rw [hc] at hc'
    cases hc'
    subst e1 e2 e3
    exact ⟨R', Stp.refl (K := K) (M := M'), den_str.mpr rfl⟩
/-- over a tuple, a list, a text -/
theorem i_seq {tg e : Expr} {m : ME} (h : SE X W e m) : SI X W tg e (mItems m) := by
  refine ⟨fun pins s σ H Rr I q => ?_⟩
  obtain ⟨ρ, M, env, Rl, E, q⟩ := q
  have q0 := q
  unfold mItems at q0
  have key : ∀ d M1, m env M = .ok d M1 → Ok X.K ρ H (DnI X.K) (fun c d H' => W c d σ H') (fun J H1 => Rr J H1) (itemsD d M1) := fun d M1 e => by
    rw [e] at q0
    exact q0
  have viaT : (∀ ds M1, m env M = .ok (.lst ds) M1 → False) → (∀ z M1, m env M = .ok (.str z) M1 → False) → wpAny (model X.prog X.w) X.A (eval e X.env) (fun v s1 => wpAny (model X.prog X.w) X.A (pyIter v) (PIE X pins σ tg Rr) X.xe s1) X.xe s := fun no no2 => by
    refine (pi_tup h).run pins s σ H Rr I ?_
    refine ⟨ρ, M, env, Rl, E, q0.bind fun d M1 ρ1 H1 v e S R1 dv q1 => ?_⟩
    cases d <;> first
      | exact q1.elim
      | exact (no _ _ e).elim
      | exact (no2 _ _ e).elim
      | (obtain ⟨a, xs, rfl, hs, hd⟩ := den_tup.mp dv
         exact ⟨a, rfl, ⟨xs, hs⟩, q1 ρ1 H1 _ (Stp.refl (K := X.K) (M := M1)) R1 (wk_tup R1 hs hd)⟩)
  cases r : m env M with
  | err => exact viaT (fun ds M1 e => by rw [r] at e; cases e) fun ds M1 e => by rw [r] at e; cases e
  | exc c fs M1 => exact viaT (fun ds M1 e => by rw [r] at e; cases e) fun ds M1 e => by rw [r] at e; cases e
  | ok d M1 =>
    cases d with
    | lst ds =>
      refine (pi_list h).run pins s σ H Rr I ?_
      refine ⟨ρ, M, env, Rl, E, q0.bind fun d M1 ρ1 H1 v e S R1 dv q1 => ?_⟩
      rw [r] at e
      cases e
      obtain ⟨a, xs, rfl, hs, hd⟩ := den_lst.mp dv
      exact ⟨a, rfl, ⟨xs, hs.sq⟩, q1 ρ1 H1 _ (Stp.refl (K := X.K) (M := M1)) R1 (wk_lst R1 hs hd)⟩
    | str z =>
      refine (pi_str h).run pins s σ H Rr I ?_
      refine ⟨ρ, M, env, Rl, E, q0.bind fun d M1 ρ1 H1 v e S R1 dv q1 => ?_⟩
      rw [r] at e
      cases e
      exact ⟨z, den_str.mp dv, q1 ρ1 H1 _ (Stp.refl (K := X.K) (M := M1)) R1 (wk_str (M := M1))⟩
    | _ => exact viaT (fun ds M1 e => by rw [r] at e; cases e) fun ds M1 e => by rw [r] at e; cases e
/-- over range(n), range(a, b) -/
def rangeL (lo : Int) (n : Nat) : List D := (List.range n).map fun (i : Nat) => .int (lo + i)
theorem rangeL_get {lo : Int} {n i : Nat} {d : D} (h : (rangeL lo n)[i]? = some d) : i < n ∧ d = .int (lo + i) := by
  unfold rangeL at h
  rw [List.getElem?_map] at h
  obtain ⟨j, h1, h2⟩ := Option.map_eq_some_iff.mp h
  have h3 := (List.getElem?_eq_some_iff.mp h1)
  obtain ⟨h4, h5⟩ := h3
  rw [List.length_range] at h4
  rw [List.getElem_range] at h5
  subst h5
  exact ⟨h4, h2.symm⟩
theorem rangeL_len (lo : Int) (n : Nat) : (rangeL lo n).length = n := by simp [rangeL]
def rng1D : List D → MH → R (List D) := fun ds M => match ds with
  | [.int j] => if j.natAbs < lim then .ok (rangeL 0 j.toNat) M else .err
  | _ => .err
def rng2D : List D → MH → R (List D) := fun ds M => match ds with
  | [.int i, .int j] => if i.natAbs < lim ∧ j.natAbs < lim then .ok (rangeL i (j - i).toNat) M else .err
  | _ => .err
def mI (f : List D → MH → R (List D)) (a : MA) : MA := fun env M => (a env M).bind fun xs M1 => f xs M1
theorem wk_rng {K : PySem.W.Frag} {ρ : Rho} {M : MH} {H : Hp} {lo : Int} {n : Nat} : Wk K ρ H (Itr lo n) (rangeL lo n) where
  goes := fun i ρ' M' H' hi _ _ => by
    rw [rangeL_len] at hi
    exact hi
  stops := fun ρ' M' H' _ _ => by
    rw [rangeL_len]
    exact Nat.le_refl n
  yields := fun i ρ' M' H' x H'' d hd R' S y => by
    obtain ⟨e1, e2⟩ := y
    obtain ⟨_, e3⟩ := rangeL_get hd
    subst e1 e2 e3
    exact ⟨R', Stp.refl (K := K) (M := M'), den_int.mpr rfl⟩
theorem far {j : Int} (h : j.natAbs < lim) : -(2 ^ 62) ≤ j ∧ j < 2 ^ 62 := by
  have e : (2 : Int) ^ 62 = 4611686018427387904 := by decide +kernel
  have h2 : j.natAbs < 1000000 := h
  rw [e]
  omega
theorem rng1_o {K : PySem.W.Frag} {ρ : Rho} {M : MH} {H : Hp} {W : Value → Option Addr → Hp → Prop} {Q : It → Hp → Prop} {ds : List D} {vs : List V} (R1 : Rel K ρ M H) (dv : Dens K ρ H ds vs) (q1 : Ok K ρ H (DnI K) W Q (rng1D ds M)) :
    ∃ j : Int, vs = [.int j] ∧ -(2 ^ 62) ≤ j ∧ j < 2 ^ 62 ∧ Q (Itr 0 j.toNat) H := by
  unfold rng1D at q1
  split at q1
  · rename_i j
    split at q1
    · rename_i z
      exact ⟨j, dens_ints_inv (ns := [j]) dv, (far z).1, (far z).2, q1 ρ H _ (Stp.refl (K := K) (M := M)) R1 (wk_rng (M := M))⟩
    · exact q1.elim
  · exact q1.elim
theorem rng2_o {K : PySem.W.Frag} {ρ : Rho} {M : MH} {H : Hp} {W : Value → Option Addr → Hp → Prop} {Q : It → Hp → Prop} {ds : List D} {vs : List V} (R1 : Rel K ρ M H) (dv : Dens K ρ H ds vs) (q1 : Ok K ρ H (DnI K) W Q (rng2D ds M)) :
    ∃ i j : Int, vs = [.int i, .int j] ∧ (-(2 ^ 62) ≤ i ∧ i < 2 ^ 62 ∧ -(2 ^ 62) ≤ j ∧ j < 2 ^ 62) ∧ Q (Itr i (j - i).toNat) H := by
  unfold rng2D at q1
  split at q1
  · rename_i i j
    split at q1
    · rename_i z
      exact ⟨i, j, dens_ints_inv (ns := [i, j]) dv, ⟨(far z.1).1, (far z.1).2, (far z.2).1, (far z.2).2⟩, q1 ρ H _ (Stp.refl (K := K) (M := M)) R1 (wk_rng (M := M))⟩
    · exact q1.elim
  · exact q1.elim
theorem i_rng1 {tg a : Expr} {p pos : Pos} {ma : MA} (hm : X.mg "range" = none) (h : SA X W [a] ma) (hg : Gl X "range" := by rfl) (hs : starEach [a] X.env = [(false, eval a X.env)] := by rfl) : SI X W tg (.Call (.Name "range" p) [a] [] pos) (mI rng1D ma) := by
  refine ⟨fun pins s σ H Rr I q => (pi_range1 hg hm h hs).run pins s σ H Rr I ?_⟩
  obtain ⟨ρ, M, env, Rl, E, q⟩ := q
  exact ⟨ρ, M, env, Rl, E, q.bind fun ds M1 ρ1 H1 vs _ S R1 dv q1 => rng1_o R1 dv q1⟩
theorem i_rng2 {tg a b : Expr} {p pos : Pos} {ma : MA} (hm : X.mg "range" = none) (h : SA X W [a, b] ma) (hg : Gl X "range" := by rfl) (hs : starEach [a, b] X.env = [(false, eval a X.env), (false, eval b X.env)] := by rfl) (hs2 : starEach [b] X.env = [(false, eval b X.env)] := by rfl) :
    SI X W tg (.Call (.Name "range" p) [a, b] [] pos) (mI rng2D ma) := by
  refine ⟨fun pins s σ H Rr I q => (pi_range2 hg hm h hs hs2).run pins s σ H Rr I ?_⟩
  obtain ⟨ρ, M, env, Rl, E, q⟩ := q
  exact ⟨ρ, M, env, Rl, E, q.bind fun ds M1 ρ1 H1 vs _ S R1 dv q1 => rng2_o R1 dv q1⟩

/-! ### targets: a name, names in a tuple -/
/-- an item put into slots; js: these slots -/
structure SG (X : Cx) (tg : Expr) (js : List Nat) (g : D → En → Option En) : Prop where
  run : ∃ t : TG, PG X tg t ∧ ∀ ρ M H d v env env' σ (Q : L2.St → Hp → Prop), Rel X.K ρ M H → EnR X.K ρ H env σ → Den X.K ρ H d v → g d env = some env' →
    (∀ σ', EnR X.K ρ H env' σ' → σ'.length = σ.length → (∀ k, k ∉ js → σ'[k]? = σ[k]?) → Q σ' H) → t v σ H Q
def gNam (i : Nat) : D → En → Option En := fun d env => some (env.set i (some d))
theorem g_name {i : Nat} {x : Str} {pos : Pos} (hN : X.N.Nodup) (hi : X.N[i]? = some x) (hx : Loc X.env.scope x) (hf : X.fn x = true ∨ X.env.scope.names.lookup x = some .local := by first | exact .inl rfl | exact .inr rfl | assumption) : SG X (.Name x pos) [i] (gNam i) :=
  ⟨gName i, pg_name hN hi hx hf, fun ρ M H d v env env' σ Q Rl E dv e q => by
    cases e
    exact q _ (E.set i dv) (by simp) fun k hk => List.getElem?_set_ne (fun z => hk (by simp [z]))⟩
structure SGs (X : Cx) (ts : List Expr) (js : List Nat) (g : List D → En → Option En) : Prop where
  run : ∃ t : TGs, PGs X ts t ∧ ∀ ρ M H ds vs env env' σ (Q : L2.St → Hp → Prop), Rel X.K ρ M H → EnR X.K ρ H env σ → Dens X.K ρ H ds vs → g ds env = some env' →
    (∀ σ', EnR X.K ρ H env' σ' → σ'.length = σ.length → (∀ k, k ∉ js → σ'[k]? = σ[k]?) → Q σ' H) → t vs σ H Q
def gsNil : List D → En → Option En := fun ds env => match ds with
  | [] => some env
  | _ => none
def gsCons (g : D → En → Option En) (r : List D → En → Option En) : List D → En → Option En := fun ds env => match ds with
  | d :: ds => (g d env).bind fun env' => r ds env'
  | [] => none
theorem g_nil : SGs X [] [] gsNil :=
  ⟨gNil, pgs_nil, fun ρ M H ds vs env env' σ Q Rl E dv e q => by
    cases ds with
    | nil =>
      cases e
      exact ⟨dens_nil.mp dv, q σ E rfl fun _ _ => rfl⟩
    | cons d ds => cases e⟩
theorem g_cons {e : Expr} {es : List Expr} {js ks : List Nat} {g : D → En → Option En} {r : List D → En → Option En} (h1 : SG X e js g) (h2 : SGs X es ks r)
    (hs : (assignEach (e :: es) X.env).map (·.2) = assign e X.env :: (assignEach es X.env).map (·.2) := by rfl) : SGs X (e :: es) (js ++ ks) (gsCons g r) := by
  obtain ⟨t, p1, q1⟩ := h1.run
  obtain ⟨u, p2, q2⟩ := h2.run
  refine ⟨gCons t u, pgs_cons p1 p2 hs, fun ρ M H ds vs env env' σ Q Rl E dv e q => ?_⟩
  cases ds with
  | nil => cases e
  | cons d ds =>
    obtain ⟨v, r', rfl, d1, d2⟩ := dens_cons.mp dv
    have e' : (g d env).bind (fun env' => r ds env') = some env' := e
    obtain ⟨env1, e1, e2⟩ := Option.bind_eq_some_iff.mp e'
    refine ⟨v, r', rfl, q1 ρ M H d v env env1 σ _ Rl E d1 e1 fun σ1 E1 l1 k1 => ?_⟩
    refine q2 ρ M H ds r' env1 env' σ1 Q Rl E1 d2 e2 fun σ2 E2 l2 k2 => q σ2 E2 (l2.trans l1) fun k hk => ?_
    rw [k2 k fun z => hk (List.mem_append_right _ z), k1 k fun z => hk (List.mem_append_left _ z)]
def gTupD (n : Nat) (g : List D → En → Option En) : D → En → Option En := fun d env => match d with
  | .tup ds => if ds.length = n then g ds env else none
  | _ => none
theorem g_tup {es : List Expr} {k : Nat} {js : List Nat} {pos : Pos} {g : List D → En → Option En} {n : Nat} (hc : X.calm = true) (h : SGs X es js g)
    (hn : (assignEach es X.env).length = n := by rfl) (hst : (assignEach es X.env).findIdx? (·.1) = none := by rfl) : SG X (.Tuple es k pos) js (gTupD n g) := by
  obtain ⟨t, p, q⟩ := h.run
  refine ⟨gTup X.K n t, pg_tup hc p hn hst, fun ρ M H d v env env' σ Q Rl E dv e w => ?_⟩
  cases d with
  | tup ds =>
    obtain ⟨a, xs, rfl, hs, hd⟩ := den_tup.mp dv
    unfold gTupD at e
    simp only at e
    split at e
    · rename_i z
      exact ⟨a, xs, rfl, hs, by rw [← hd.length]; exact z, q ρ M H ds xs env env' σ Q Rl E hd e w⟩
    · cases e
  | _ => cases e

/-! ### comprehensions -/
def wipeE (env : En) : List Nat → En
  | [] => env
  | v :: vs => (wipeE env vs).set v none
theorem EnR.wipe {K : PySem.W.Frag} {ρ : Rho} {H : Hp} {env : En} {σ : L2.St} (E : EnR K ρ H env σ) : ∀ vs : List Nat, EnR K ρ H (wipeE env vs) (L2.wipe σ vs)
  | [] => E
  | v :: vs => by
    have ih := EnR.wipe E vs
    refine ⟨by unfold wipeE L2.wipe; rw [List.length_set, List.length_set]; exact ih.len, fun i d h => ?_⟩
    unfold wipeE at h
    unfold L2.wipe
    by_cases hi : v = i
    · subst hi
      by_cases hv : v < (wipeE env vs).length
      · rw [List.getElem?_set_self hv] at h; cases h
      · rw [List.getElem?_eq_none (by simpa using hv)] at h; cases h
    · rw [List.getElem?_set_ne hi] at h
      rw [List.getElem?_set_ne hi]
      exact ih.get i d h
theorem wipe_mem {σ : L2.St} {k : Nat} : ∀ {vs : List Nat}, k ∈ vs → k < σ.length → (L2.wipe σ vs)[k]? = some none
  | [], h, _ => by simp at h
  | v :: vs, h, hk => by
    unfold L2.wipe
    by_cases hv : v = k
    · subst hv
      rw [List.getElem?_set_self (by rw [wipe_length]; exact hk)]
    · rw [List.getElem?_set_ne hv]
      refine wipe_mem ?_ hk
      rcases List.mem_cons.mp h with z | z
      · exact absurd z.symm hv
      · exact z
theorem wipe_not {σ : L2.St} {k : Nat} : ∀ {vs : List Nat}, k ∉ vs → (L2.wipe σ vs)[k]? = σ[k]?
  | [], _ => rfl
  | v :: vs, h => by
    unfold L2.wipe
    rw [List.getElem?_set_ne fun z => h (by simp [z])]
    exact wipe_not fun z => h (List.mem_cons_of_mem _ z)
theorem wipe_same {σ σ' : L2.St} {vs : List Nat} (hl : σ'.length = σ.length) (h : ∀ k, k ∉ vs → σ'[k]? = (L2.wipe σ vs)[k]?) : L2.wipe σ' vs = L2.wipe σ vs := by
  refine List.ext_getElem? fun k => ?_
  by_cases hk : k ∈ vs
  · by_cases hl2 : k < σ.length
    · rw [wipe_mem hk hl2, wipe_mem hk (by rw [hl]; exact hl2)]
    · rw [List.getElem?_eq_none (by rw [wipe_length]; omega), List.getElem?_eq_none (by rw [wipe_length]; omega)]
  · rw [wipe_not hk, h k hk]
/-- nothing is let out -/
def noX {α : Type} : R α → R α
  | .ok a M => .ok a M
  | _ => .err
def lcOne (g : D → En → Option En) (t : MT) (e : ME) (env : En) : D → MH → R (Option D) := fun x M => match g x env with
  | some env' => (noX (t env' M)).bind fun b M1 => if b = true then (noX (e env' M1)).bind fun d M2 => .ok (some d) M2 else .ok none M1
  | none => .err
def lcGo (f : D → MH → R (Option D)) : List D → MH → R (List D)
  | [], M => .ok [] M
  | x :: xs, M => (f x M).bind fun o M1 => (lcGo f xs M1).bind fun r M2 => .ok (match o with | some d => d :: r | none => r) M2
def mLc (mi : MA) (g : D → En → Option En) (t : MT) (e : ME) (vs : List Nat) : ME := fun env M => (mi env M).bind fun items M1 => if items.length < lim then (lcGo (lcOne g t e (wipeE env vs)) items M1).bind fun ds M2 => .ok (.lst ds) M2 else .err
def mYes : MT := fun _ M => .ok true M
abbrev W0 : WX := fun _ _ _ _ => False
def SPt (X : Cx) (W : WX) (ifs : List Expr) (m : MT) : Prop := PTs X ifs (tm X.K DnB W m)
theorem p_nil : SPt X W [] mYes := ⟨fun pins s σ H Q I q => by
  obtain ⟨ρ, M, env, Rl, E, q⟩ := q
  exact pts_nil.run pins s σ H Q I (hereB Rl q)⟩
theorem p_one {c : Expr} {m : MT} (h : ST X W c m) : SPt X W [c] m := pts_one h
end
end Mi

end

section
/-! Mi, eighth part: a list made by a comprehension. -/
namespace Mi
open PySem PySem.Spec PyProof.Rows L2
section
variable {K : PySem.W.Frag}
theorem lcOne_ne {g : D → En → Option En} {t : MT} {e : ME} {env : En} {x : D} {M : MH} : ∀ c fs M', lcOne g t e env x M ≠ .exc c fs M' := by
  intro c fs M' h
  unfold lcOne at h
  cases hg : g x env with
  | none => rw [hg] at h; cases h
  | some env' =>
    rw [hg] at h
    simp only at h
    cases ht : t env' M with
    | ok b M1 =>
      rw [ht] at h
      simp only [noX, R.bind_ok] at h
      cases b with
      | false => cases h
      | true =>
        simp only [if_pos] at h
        cases he : e env' M1 with
        | ok d M2 => rw [he] at h; cases h
        | exc c2 f2 M2 => rw [he] at h; cases h
        | err => rw [he] at h; cases h
    | exc c2 f2 M2 => rw [ht] at h; cases h
    | err => rw [ht] at h; cases h
/-- how far it has come: ds is made, at Dl -/
def LcP (K : PySem.W.Frag) (ρ1 : Rho) (M1 : MH) (H1 : Hp) (Dl : Addr) (f : D → MH → R (Option D)) (items : List D) (i : Nat) (H : Hp) : Prop :=
  ∃ ρ M acc ds, Rel K (ρ.hide Dl) M H ∧ Stp ρ1 H1 ρ H ∧ Tr ρ1 H1 (ρ.hide Dl) H ∧ H Dl = some (.lst acc) ∧ Dens K (ρ.hide Dl) H ds acc ∧ acc.length ≤ i ∧ lcGo f items M1 = (lcGo f (items.drop i) M).bind fun r M2 => .ok (ds ++ r) M2
theorem bind_eta {α : Type} (r : R (List α)) : (r.bind fun x M => .ok ([] ++ x) M) = r := by cases r <;> rfl
theorem lcP_start {ρ1 : Rho} {M1 : MH} {H1 : Hp} {Dl : Addr} {f : D → MH → R (Option D)} {items : List D} (Rl : Rel K ρ1 M1 H1) (hD : H1 Dl = none) : LcP K ρ1 M1 H1 Dl f items 0 (upd H1 Dl (.lst [])) :=
  ⟨ρ1, M1, [], [], Rl.hide hD, Stp.alloc hD, Tr.hide hD, upd_same, dens_nil.mpr rfl, Nat.le_refl _, by rw [List.drop_zero, bind_eta]⟩
/-- behind a turn: the hidden list is the same object still -/
theorem stp_out {ρ1 ρ ρ4 : Rho} {H1 H H4 : Hp} {Dl : Addr} (hD : H1 Dl = none) (S : Stp ρ1 H1 ρ H) (S4 : Stp (ρ.hide Dl) H ρ4 H4) : Stp ρ1 H1 ⟨ρ4.c, ρ.h⟩ H4 where
  pre := fun l o h => by
    rcases S.pre l o h with q | q
    · exact S4.pre l o q
    · rcases S4.pre l none q with z | z <;> exact .inr z
  new := fun x m => by
    rcases S4.new x m with q | q
    · exact S.new x q
    · cases e : H1 x with
      | none => exact .inr rfl
      | some o =>
        by_cases hx : some x ∈ ρ1.c
        · exact .inl hx
        · rw [S.keep x o e hx] at q; cases q
  keep := fun x o h n => S4.keep x o (S.keep x o h n) (S.notin h n)
  hid := S.hid
theorem stp_app {ρ1 ρ : Rho} {H1 H : Hp} {Dl : Addr} {o : HO} (hD : H1 Dl = none) (S : Stp ρ1 H1 ρ H) : Stp ρ1 H1 ρ (upd H Dl o) where
  pre := S.pre
  new := S.new
  keep := fun x u h n => by
    rw [upd_ne (ne_of_none h hD)]
    exact S.keep x u h n
  hid := S.hid
theorem rho_hide {ρ ρ4 : Rho} {Dl : Addr} (h : ρ4.h = (ρ.hide Dl).h) : ρ4 = (⟨ρ4.c, ρ.h⟩ : Rho).hide Dl := by
  cases ρ4 with
  | mk c hh =>
    have e : hh = Dl :: ρ.h := h
    subst e
    rfl
end
section
variable {X : Cx} {W : WX}
theorem drop_cons {α : Type} {xs : List α} {i : Nat} {x : α} (h : xs[i]? = some x) : xs.drop i = x :: xs.drop (i + 1) := by
  obtain ⟨hi, e⟩ := List.getElem?_eq_some_iff.mp h
  rw [List.drop_eq_getElem_cons hi, e]
/-- the weakest reading of a target -/
def gW (K : PySem.W.Frag) (js : List Nat) (g : D → En → Option En) : TG := fun v σ H Q => ∃ ρ M d env env', Rel K ρ M H ∧ EnR K ρ H env σ ∧ Den K ρ H d v ∧ g d env = some env' ∧ ∀ σ', EnR K ρ H env' σ' → σ'.length = σ.length → (∀ k, k ∉ js → σ'[k]? = σ[k]?) → Q σ' H
theorem gW_of {tg : Expr} {js : List Nat} {g : D → En → Option En} (h : SG X tg js g) : PG X tg (gW X.K js g) := by
  obtain ⟨t, p, q⟩ := h.run
  refine ⟨fun pins s1 σ H1 v u Q I r h => p.run pins s1 σ H1 v u Q I r ?_⟩
  obtain ⟨ρ, M, d, env, env', h1, h2, h3, h4, h5⟩ := h
  exact q ρ M H1 d v env env' σ Q h1 h2 h3 h4 h5
theorem lc_imp {K : PySem.W.Frag} {mi : MA} {js vs : List Nat} {g : D → En → Option En} {mt : MT} {me : ME} {σ : L2.St} {H : Hp} {Q : VK} (hj : ∀ j ∈ js, j ∈ vs) (h : tm K (DnD K) W (mLc mi g mt me vs) σ H Q) :
    tLc (tm K (DnI K) W mi) (gW K js g) (tm K DnB W0 mt) (tm K (DnD K) W0 me) vs σ H Q := by
  refine tm_bind (f := fun items env M1 => if items.length < lim then (lcGo (lcOne g mt me (wipeE env vs)) items M1).bind fun ds M2 => (R.ok (D.lst ds) M2 : R D) else .err) h fun items M1 ρ1 H1 J env R1 E1 wk h => ?_
  intro Dl hD
  split at h
  rotate_left
  · exact h.elim
  rename_i hlim
  have tot : lcGo (lcOne g mt me (wipeE env vs)) items M1 ≠ .err := fun e => by
    rw [e] at h
    exact h
  -- the walk over the items
  have wk' : Wk K ρ1 H1 J items := wk
  refine ⟨fun i m H' => m = items.length - i ∧ i ≤ items.length ∧ LcP K ρ1 M1 H1 Dl (lcOne g mt me (wipeE env vs)) items i H', ⟨items.length, by simp, Nat.zero_le _, lcP_start R1 hD⟩, ?_⟩
  rintro i m H' ⟨rfl, hi', ρ, M, acc, ds, Rl, S, T, eD, dd, hl, eq⟩
  by_cases hlt : i < items.length
  · refine .inr ⟨wk'.goes i _ M H' hlt Rl T, fun H'' => i + 1 ≤ items.length ∧ LcP K ρ1 M1 H1 Dl (lcOne g mt me (wipeE env vs)) items (i + 1) H'', fun H'' p => ⟨items.length - (i + 1), by omega, rfl, p.1, p.2⟩, fun x H2 y => ?_⟩
    have hx : items[i]? = some items[i] := List.getElem?_eq_getElem hlt
    obtain ⟨R2, S2, dx⟩ := wk'.yields i _ M H' x H2 items[i] hx Rl T y
    have T2 : Tr (ρ.hide Dl) H' (ρ.hide Dl) H2 := S2.tr Rl
    rw [drop_cons hx] at eq
    -- what the turn comes to
    have e1 : ∀ r, lcOne g mt me (wipeE env vs) items[i] M = r → r ≠ .err := fun r e z => by
      refine tot ?_
      rw [eq]
      show ((lcOne g mt me (wipeE env vs) items[i] M).bind _).bind _ = _
      rw [e, z]
      rfl
    cases hgx : g items[i] (wipeE env vs) with
    | none => exact absurd (by unfold lcOne; rw [hgx]) (e1 _ rfl)
    | some env' =>
      have E2 : EnR K (ρ.hide Dl) H2 (wipeE env vs) (L2.wipe σ vs) := ((E1.tr T).tr T2).wipe _
      refine ⟨ρ.hide Dl, M, items[i], _, env', R2, E2, dx, hgx, fun σ2 E3 l3 keep => ⟨wipe_same (by rw [l3, wipe_length]) fun k hk => keep k fun z => hk (hj k z), ?_⟩⟩
      -- the tests
      have step : lcOne g mt me (wipeE env vs) items[i] M = (noX (mt env' M)).bind fun b M1 => if b = true then (noX (me env' M1)).bind fun d M2 => .ok (some d) M2 else .ok none M1 := by
        unfold lcOne
        rw [hgx]
      refine ⟨ρ.hide Dl, M, env', R2, E3, ?_⟩
      cases ht1 : mt env' M with
      | err => exact (e1 _ (by rw [step, ht1]; rfl)) rfl
      | exc c fs Mx => exact ((e1 _ (by rw [step, ht1]; rfl)) rfl).elim
      | ok b M3 =>
        intro ρ3 H3 b' S3 R3 eb
        cases (show b = b' from eb)
        have eD3 : H3 Dl = some (.lst acc) := S3.keep Dl _ (S2.keep Dl _ eD (Rl.hid Dl List.mem_cons_self).1) (R2.hid Dl List.mem_cons_self).1
        have T3 : Tr (ρ.hide Dl) H' ρ3 H3 := T2.trans (S3.tr R2)
        have Sx : Stp (ρ.hide Dl) H' ρ3 H3 := S2.trans S3
        cases b with
        | false =>
          show (if false = true then _ else _)
          rw [if_neg (by decide)]
          refine ⟨hlt, ⟨ρ3.c, ρ.h⟩, M3, acc, ds, ?_, stp_out hD S Sx, ?_, eD3, ?_, Nat.le_succ_of_le hl, ?_⟩
          · rw [← rho_hide Sx.hid]; exact R3
          · rw [← rho_hide Sx.hid]; exact T.trans T3
          · rw [← rho_hide Sx.hid]; exact Dens.tr T3 _ _ dd
          · rw [eq]
            show ((lcOne g mt me (wipeE env vs) items[i] M).bind _).bind _ = _
            rw [step, ht1]
            show (((R.ok (none : Option D) M3)).bind _).bind _ = _
            simp only [R.bind_ok]
            cases lcGo (lcOne g mt me (wipeE env vs)) (items.drop (i + 1)) M3 <;> rfl
        | true =>
          show (if true = true then _ else _)
          rw [if_pos rfl]
          refine ⟨ρ3, M3, env', R3, E3.tr (S3.tr R2), ?_⟩
          cases he1 : me env' M3 with
          | err => exact (e1 _ (by rw [step, ht1]; show (R.bind (noX (me env' M3)) _) = _; rw [he1]; rfl)) rfl
          | exc c fs Mx => exact ((e1 _ (by rw [step, ht1]; show (R.bind (noX (me env' M3)) _) = _; rw [he1]; rfl)) rfl).elim
          | ok d M4 =>
            intro ρ4 H4 v S4 R4 dv
            have m3 : Dl ∈ ρ3.h := by rw [Sx.hid]; exact List.mem_cons_self
            have m4 : Dl ∈ ρ4.h := by rw [S4.hid]; exact m3
            have eD4 : H4 Dl = some (.lst acc) := S4.keep Dl _ eD3 (R3.hid Dl m3).1
            have Sy : Stp (ρ.hide Dl) H' ρ4 H4 := Sx.trans S4
            have T4 : Tr (ρ.hide Dl) H' ρ4 H4 := T3.trans (S4.tr R3)
            have T5 : Tr ρ4 H4 ρ4 (upd H4 Dl (.lst (acc ++ [v]))) := Tr.hidden m4 eD4
            have hsz : acc.length < sizeLine := lim_lt (by omega)
            refine ⟨acc, eD4, hsz, hlt, ⟨ρ4.c, ρ.h⟩, M4, acc ++ [v], ds ++ [d], ?_, stp_app hD (stp_out hD S Sy), ?_, upd_same, ?_, ?_, ?_⟩
            · rw [← rho_hide Sy.hid]; exact R4.hidden m4 eD4
            · rw [← rho_hide Sy.hid]; exact (T.trans T4).trans T5
            · rw [← rho_hide Sy.hid]
              exact (Dens.tr (T4.trans T5) _ _ dd).append (dens_cons.mpr ⟨v, [], rfl, Den.tr T5 _ _ dv, dens_nil.mpr rfl⟩)
            · rw [List.length_append]
              show acc.length + 1 ≤ i + 1
              omega
            · rw [eq]
              show ((lcOne g mt me (wipeE env vs) items[i] M).bind _).bind _ = _
              rw [step, ht1]
              show ((R.bind (noX (me env' M3)) _).bind _).bind _ = _
              rw [he1]
              show (((R.ok (some d) M4)).bind _).bind _ = _
              simp only [R.bind_ok]
              cases lcGo (lcOne g mt me (wipeE env vs)) (items.drop (i + 1)) M4 with
              | ok r M5 => simp
              | exc c fs M5 => rfl
              | err => rfl
  · have e : i = items.length := by omega
    subst e
    refine .inl ⟨wk'.stops _ M H' Rl T, ?_⟩
    rw [List.drop_length] at eq
    have eq2 : lcGo (lcOne g mt me (wipeE env vs)) items M1 = .ok (ds ++ []) M := eq
    rw [eq2, List.append_nil] at h
    obtain ⟨n1, _⟩ := Rl.hid Dl List.mem_cons_self
    have n2 : Dl ∉ ρ.h := by
      rw [S.hid]
      exact R1.freshH hD
    exact h ρ H' (.ref Dl) S Rl.unhide (den_lst.mpr ⟨Dl, acc, rfl, .inl ⟨.inl eD, n1, n2⟩, Dens.tr Tr.unhide _ _ dd⟩)
theorem s_lc {elt tg iter : Expr} {ifs : List Expr} {scope : Scope} {own : List (Str × Nat)} {pos : Pos} {mi : MA} {js : List Nat} {g : D → En → Option En} {mt : MT} {me : ME} (hc : X.calm = true) (hN : X.N.Nodup) (hi : SI X W tg iter mi) (ok : BlkOk X.N X.env.scope scope own)
    (hj : ∀ j ∈ js, j ∈ own.map (·.2))
    (hg : ∀ (s : Shared) (H : Hp) (C : Addr) (cl : List (Str × Addr)) (fp : List Addr), SG (X.blk s H scope (compEnvC scope cl C X.env) fp) tg js g)
    (ht : ∀ (s : Shared) (H : Hp) (C : Addr) (cl : List (Str × Addr)) (fp : List Addr), SPt (X.blk s H scope (compEnvC scope cl C X.env) fp) W0 ifs mt)
    (he : ∀ (s : Shared) (H : Hp) (C : Addr) (cl : List (Str × Addr)) (fp : List Addr), SE (X.blk s H scope (compEnvC scope cl C X.env) fp) W0 elt me) (hs : ∀ x, foldedSetIterable iter X.env x = pure x := by intro _; rfl) :
    SE X W (.ListComp elt [⟨tg, iter, ifs, 0⟩] scope pos) (mLc mi g mt me (own.map (·.2))) :=
  pe_imp (pe_lc (g := gW X.K js g) (tt := tm X.K DnB W0 mt) (te := tm X.K (DnD X.K) W0 me) hc hN hi ok (fun s H C cl fp => gW_of (hg s H C cl fp)) (fun s H C cl fp => ht s H C cl fp) (fun s H C cl fp => he s H C cl fp) hs) fun _ _ _ h => lc_imp hj h
end
end Mi

end

section
/-! Mi, ninth part: statements. -/
namespace Mi
open PySem PySem.Spec PyProof.Rows L2

inductive RS where
  | nx (env : En) (M : MH)
  | ret (d : D) (M : MH)
  | bk (env : En) (M : MH)
  | ct (env : En) (M : MH)
  | exc (c : Str) (fs : Option (List (Str × D))) (env : En) (M : MH)
  | err
abbrev MS := En → MH → RS
def RS.bind (r : RS) (f : MS) : RS := match r with
  | .nx env M => f env M
  | r => r
/-- a value first, with these slots -/
def andS {α : Type} (r : R α) (env : En) (f : α → MH → RS) : RS := match r with
  | .ok a M => f a M
  | .exc c fs M => .exc c fs env M
  | .err => .err
@[simp] theorem RS.bind_nx (env : En) (M : MH) (f : MS) : (RS.nx env M).bind f = f env M := rfl
@[simp] theorem RS.bind_ret (d : D) (M : MH) (f : MS) : (RS.ret d M).bind f = .ret d M := rfl
@[simp] theorem RS.bind_bk (env : En) (M : MH) (f : MS) : (RS.bk env M).bind f = .bk env M := rfl
@[simp] theorem RS.bind_ct (env : En) (M : MH) (f : MS) : (RS.ct env M).bind f = .ct env M := rfl
@[simp] theorem RS.bind_exc (c : Str) (fs : Option (List (Str × D))) (env : En) (M : MH) (f : MS) : (RS.exc c fs env M).bind f = .exc c fs env M := rfl
@[simp] theorem RS.bind_err (f : MS) : RS.err.bind f = .err := rfl
@[simp] theorem andS_ok {α : Type} (a : α) (M : MH) (env : En) (f : α → MH → RS) : andS (.ok a M) env f = f a M := rfl
@[simp] theorem andS_exc {α : Type} (c : Str) (fs : Option (List (Str × D))) (M : MH) (env : En) (f : α → MH → RS) : andS (R.exc c fs M) env f = .exc c fs env M := rfl
@[simp] theorem andS_err {α : Type} (env : En) (f : α → MH → RS) : andS (R.err : R α) env f = .err := rfl

def OkS (K : PySem.W.Frag) (ρ : Rho) (H : Hp) (W : WX) (D : Ends) : RS → Prop
  | .nx env M => ∀ ρ' H' σ', Stp ρ H ρ' H' → Rel K ρ' M H' → EnR K ρ' H' env σ' → D.nx σ' H'
  | .ret d M => ∀ ρ' H' v, Stp ρ H ρ' H' → Rel K ρ' M H' → Den K ρ' H' d v → D.rt v H'
  | .bk env M => ∀ ρ' H' σ', Stp ρ H ρ' H' → Rel K ρ' M H' → EnR K ρ' H' env σ' → D.bk σ' H'
  | .ct env M => ∀ ρ' H' σ', Stp ρ H ρ' H' → Rel K ρ' M H' → EnR K ρ' H' env σ' → D.ct σ' H'
  | .exc c fs env M => ∀ ρ' H' d σ' cv, CN K c cv → Stp ρ H ρ' H' → Rel K ρ' M H' → XRel K ρ' H' fs d → EnR K ρ' H' env σ' → W cv d σ' H'
  | .err => False
theorem OkS.step {K : PySem.W.Frag} {ρ ρ1 : Rho} {H H1 : Hp} {W : WX} {D : Ends} {r : RS} (S : Stp ρ H ρ1 H1) (h : OkS K ρ H W D r) : OkS K ρ1 H1 W D r := by
  cases r with
  | nx env M => exact fun ρ' H' σ' S' => h ρ' H' σ' (S.trans S')
  | ret d M => exact fun ρ' H' σ' S' => h ρ' H' σ' (S.trans S')
  | bk env M => exact fun ρ' H' σ' S' => h ρ' H' σ' (S.trans S')
  | ct env M => exact fun ρ' H' σ' S' => h ρ' H' σ' (S.trans S')
  | exc c fs env M => exact fun ρ' H' d σ' cv cn S' => h ρ' H' d σ' cv cn (S.trans S')
  | err => exact h
def ts (K : PySem.W.Frag) (W : WX) (m : MS) : TS := fun D σ H => ∃ ρ M env, Rel K ρ M H ∧ EnR K ρ H env σ ∧ OkS K ρ H W D (m env M)
def SS (X : Cx) (W : WX) (st : Stmt) (m : MS) : Prop := PS X st (ts X.K W m)
def SB (X : Cx) (W : WX) (sts : List Stmt) (m : MS) : Prop := PSs X sts (ts X.K W m)
theorem ps_imp {X : Cx} {st : Stmt} {t t' : TS} (h : PS X st t) (i : ∀ D σ H, t' D σ H → t D σ H) : PS X st t' := ⟨fun pins s σ H D I q => h.run pins s σ H D I (i D σ H q)⟩
theorem pss_imp {X : Cx} {st : List Stmt} {t t' : TS} (h : PSs X st t) (i : ∀ D σ H, t' D σ H → t D σ H) : PSs X st t' := ⟨fun pins s σ H D I q => h.run pins s σ H D I (i D σ H q)⟩
/-- an expression's part of a statement -/
theorem andS_tm {α β : Type} {K : PySem.W.Frag} {dn : Rho → Hp → α → β → Prop} {W : WX} {D : Ends} {σ : L2.St} {H : Hp} {ρ : Rho} {M : MH} {env : En} {m : En → MH → R α} {f : α → MH → RS} {Q : β → Hp → Prop} (Rl : Rel K ρ M H) (E : EnR K ρ H env σ)
    (h : OkS K ρ H W D (andS (m env M) env f))
    (k : ∀ a M1 ρ1 H1 v, Rel K ρ1 M1 H1 → EnR K ρ1 H1 env σ → dn ρ1 H1 a v → OkS K ρ1 H1 W D (f a M1) → Q v H1) : tm K dn W m σ H Q := by
  refine ⟨ρ, M, env, Rl, E, ?_⟩
  cases e : m env M with
  | err => rw [e] at h; exact h
  | exc c fs M1 =>
    rw [e] at h
    exact fun ρ1 H1 d cv cn S R1 x => h ρ1 H1 d σ cv cn S R1 x (E.step Rl S)
  | ok a M1 =>
    rw [e] at h
    have h' : OkS K ρ H W D (f a M1) := h
    exact fun ρ1 H1 v S R1 dv => k a M1 ρ1 H1 v R1 (E.step Rl S) dv (h'.step S)
section
variable {X : Cx} {W : WX}
def bNil : MS := fun env M => .nx env M
def bCons (a b : MS) : MS := fun env M => (a env M).bind b
theorem b_nil : SB X W [] bNil := by
  refine pss_imp pss_nil fun D σ H h => ?_
  obtain ⟨ρ, M, env, Rl, E, h⟩ := h
  exact h ρ H σ (Stp.refl (K := X.K) (M := M)) Rl E
theorem b_cons {st : Stmt} {rest : List Stmt} {a b : MS} (h1 : SS X W st a) (h2 : SB X W rest b) : SB X W (st :: rest) (bCons a b) := by
  refine pss_imp (pss_cons h1 h2) fun D σ H h => ?_
  obtain ⟨ρ, M, env, Rl, E, h⟩ := h
  refine ⟨ρ, M, env, Rl, E, ?_⟩
  have h' : OkS X.K ρ H W D ((a env M).bind b) := h
  cases e : a env M with
  | nx env1 M1 =>
    rw [e] at h'
    exact fun ρ1 H1 σ1 S R1 E1 => ⟨ρ1, M1, env1, R1, E1, h'.step S⟩
  | ret d M1 => rw [e] at h'; exact h'
  | bk env1 M1 => rw [e] at h'; exact h'
  | ct env1 M1 => rw [e] at h'; exact h'
  | exc c fs env1 M1 => rw [e] at h'; exact h'
  | err => rw [e] at h'; exact h'
/-- the last one -/
theorem b_one {st : Stmt} {a : MS} (h1 : SS X W st a) : SB X W [st] a := pss_one h1
theorem c_pass {pos : Pos} : SS X W (.Pass pos) bNil := by
  refine ps_imp ps_pass fun D σ H h => ?_
  obtain ⟨ρ, M, env, Rl, E, h⟩ := h
  exact h ρ H σ (Stp.refl (K := X.K) (M := M)) Rl E
theorem c_doc {x j pos pos'} : SS X W (.Expr (.Constant (.str x) j pos) pos') bNil := by
  refine ps_imp ps_doc fun D σ H h => ?_
  obtain ⟨ρ, M, env, Rl, E, h⟩ := h
  exact h ρ H σ (Stp.refl (K := X.K) (M := M)) Rl E
def cBrk : MS := fun env M => .bk env M
def cCnt : MS := fun env M => .ct env M
theorem c_brk {pos : Pos} : SS X W (.Break pos) cBrk := by
  refine ps_imp ps_break fun D σ H h => ?_
  obtain ⟨ρ, M, env, Rl, E, h⟩ := h
  exact h ρ H σ (Stp.refl (K := X.K) (M := M)) Rl E
theorem c_cnt {pos : Pos} : SS X W (.Continue pos) cCnt := by
  refine ps_imp ps_continue fun D σ H h => ?_
  obtain ⟨ρ, M, env, Rl, E, h⟩ := h
  exact h ρ H σ (Stp.refl (K := X.K) (M := M)) Rl E
def cExp (m : ME) : MS := fun env M => andS (m env M) env fun _ M1 => .nx env M1
theorem c_exp {e : Expr} {pos : Pos} {m : ME} (h : SE X W e m) (hs : swapsWith e none pos.line X.env = pure false := by rfl) : SS X W (.Expr e pos) (cExp m) := by
  refine ps_imp (ps_expr h hs) fun D σ H q => ?_
  obtain ⟨ρ, M, env, Rl, E, q⟩ := q
  exact andS_tm Rl E q fun a M1 ρ1 H1 v R1 E1 dv q1 => q1 ρ1 H1 σ (Stp.refl (K := X.K) (M := M1)) R1 E1
def cRet (m : ME) : MS := fun env M => andS (m env M) env fun d M1 => .ret d M1
theorem c_ret {e : Expr} {pos : Pos} {m : ME} (h : SE X W e m) : SS X W (.Return (some e) pos) (cRet m) := by
  refine ps_imp (ps_ret h) fun D σ H q => ?_
  obtain ⟨ρ, M, env, Rl, E, q⟩ := q
  exact andS_tm Rl E q fun a M1 ρ1 H1 v R1 E1 dv q1 => q1 ρ1 H1 v (Stp.refl (K := X.K) (M := M1)) R1 dv
def cRetN : MS := fun _ M => .ret .non M
theorem c_retN {pos : Pos} : SS X W (.Return none pos) cRetN := by
  refine ps_imp ps_retN fun D σ H q => ?_
  obtain ⟨ρ, M, env, Rl, E, q⟩ := q
  exact q ρ H .non (Stp.refl (K := X.K) (M := M)) Rl (den_non.mpr rfl)
def cIf (c : MT) (a b : MS) : MS := fun env M => andS (c env M) env fun k M1 => if k = true then a env M1 else b env M1
theorem c_if {c : Expr} {sa sb : List Stmt} {pos : Pos} {mc : MT} {a b : MS} (hc : ST X W c mc) (ha : SB X W sa a) (hb : SB X W sb b) : SS X W (.If c sa sb pos) (cIf mc a b) := by
  refine ps_imp (ps_if hc ha hb) fun D σ H q => ?_
  obtain ⟨ρ, M, env, Rl, E, q⟩ := q
  refine andS_tm Rl E q fun k M1 ρ1 H1 v R1 E1 dv q1 => ?_
  cases (show k = v from dv)
  cases k with
  | true => exact ⟨ρ1, M1, env, R1, E1, q1⟩
  | false => exact ⟨ρ1, M1, env, R1, E1, q1⟩
/-! ### stores -/
def cAsg (m : ME) (g : D → En → Option En) : MS := fun env M => andS (m env M) env fun d M1 => match g d env with
  | some env' => .nx env' M1
  | none => .err
theorem asg_imp {K : PySem.W.Frag} {m : ME} {g : D → En → Option En} {te : TE} {js : List Nat} {D : Ends} {σ : L2.St} {H : Hp} (i : ∀ Q : VK, tm K (DnD K) W m σ H Q → te σ H Q) (q : ts K W (cAsg m g) D σ H) : tAsg te (gW K js g) D σ H := by
  obtain ⟨ρ, M, env, Rl, E, q⟩ := q
  refine i _ (andS_tm Rl E q fun d M1 ρ1 H1 v R1 E1 dv q1 => ?_)
  split at q1
  · rename_i env' e
    exact ⟨ρ1, M1, d, env, env', R1, E1, dv, e, fun σ' E2 _ _ => q1 ρ1 H1 σ' (Stp.refl (K := K) (M := M1)) R1 E2⟩
  · exact q1.elim
theorem c_asg {tg e : Expr} {pos : Pos} {m : ME} {js : List Nat} {g : D → En → Option En} (h : SE X W e m) (hg : SG X tg js g) (hs : swapsWithSole [tg] e pos.line X.env = pure false := by rfl) (hw : swappedStores [tg] e X.env = pure none := by rfl)
    (h1 : (assignEach [tg] X.env).map (·.2) = [assign tg X.env] := by rfl) : SS X W (.Assign [tg] e pos) (cAsg m g) :=
  ps_imp (ps_asg h (gW_of hg) hs hw h1) fun _ _ _ q => asg_imp (fun _ z => z) q
theorem c_set {i : Nat} {x : Str} {e : Expr} {pos pos' : Pos} {m : ME} (hN : X.N.Nodup) (h : SE X W e m) (hi : X.N[i]? = some x := by rfl) (hx : Loc X.env.scope x := by first | exact .inl rfl | exact .inr rfl) (hs : swapsWith e (some (.Name x pos')) pos.line X.env = pure false := by rfl)
    (hf : X.fn x = true ∨ X.env.scope.names.lookup x = some .local := by first | exact .inl rfl | exact .inr rfl | assumption) : SS X W (.Assign [.Name x pos'] e pos) (cAsg m (gNam i)) := by
  refine ps_imp (ps_set hN hi hx h hs hf) fun D σ H q => ?_
  obtain ⟨ρ, M, env, Rl, E, q⟩ := q
  exact andS_tm Rl E q fun d M1 ρ1 H1 v R1 E1 dv q1 => q1 ρ1 H1 _ (Stp.refl (K := X.K) (M := M1)) R1 (E1.set i dv)
/-- name = [.. for .. in ..] -/
theorem c_setLc {i : Nat} {y : Str} {py : Pos} {elt tg iter : Expr} {ifs : List Expr} {scope : Scope} {own : List (Str × Nat)} {pos spos : Pos} {mi : MA} {js : List Nat} {g : D → En → Option En} {mt : MT} {me : ME} (hc : X.calm = true) (hN : X.N.Nodup) (hi : SI X W tg iter mi) (ok : BlkOk X.N X.env.scope scope own)
    (hj : ∀ j ∈ js, j ∈ own.map (·.2))
    (hg : ∀ (s : Shared) (H : Hp) (C : Addr) (cl : List (Str × Addr)) (fp : List Addr), SG (X.blk s H scope (compEnvC scope cl C X.env) fp) tg js g)
    (ht : ∀ (s : Shared) (H : Hp) (C : Addr) (cl : List (Str × Addr)) (fp : List Addr), SPt (X.blk s H scope (compEnvC scope cl C X.env) fp) W0 ifs mt)
    (he : ∀ (s : Shared) (H : Hp) (C : Addr) (cl : List (Str × Addr)) (fp : List Addr), SE (X.blk s H scope (compEnvC scope cl C X.env) fp) W0 elt me)
    (hsw : swapsWith (.ListComp elt [⟨tg, iter, ifs, 0⟩] scope pos) (some (.Name y py)) spos.line X.env = pure true) (hy : X.N[i]? = some y := by rfl) (hyl : X.env.scope.names.lookup y = some .local := by rfl) (hs : ∀ x, foldedSetIterable iter X.env x = pure x := by intro _; rfl) :
    SS X W (.Assign [.Name y py] (.ListComp elt [⟨tg, iter, ifs, 0⟩] scope pos) spos) (cAsg (mLc mi g mt me (own.map (·.2))) (gNam i)) := by
  refine ps_imp (ps_setLc (g := gW X.K js g) (tt := tm X.K DnB W0 mt) (te := tm X.K (DnD X.K) W0 me) hc hN hy hyl hsw hi ok (fun s H C cl fp => gW_of (hg s H C cl fp)) (fun s H C cl fp => ht s H C cl fp) (fun s H C cl fp => he s H C cl fp) hs) fun D σ H q => ?_
  obtain ⟨ρ, M, env, Rl, E, q⟩ := q
  refine lc_imp (W := W) hj (andS_tm Rl E q fun d M1 ρ1 H1 v R1 E1 dv q1 => ?_)
  exact q1 ρ1 H1 _ (Stp.refl (K := X.K) (M := M1)) R1 (E1.set i dv)

/-! ### for, while -/
def forGo (g : D → En → Option En) (b : MS) : List D → MS
  | [], env, M => .nx env M
  | x :: xs, env, M => match g x env with
    | none => .err
    | some env' => match b env' M with
      | .nx e2 M2 => forGo g b xs e2 M2
      | .ct e2 M2 => forGo g b xs e2 M2
      | .bk e2 M2 => .nx e2 M2
      | .ret d M2 => .ret d M2
      | .exc c fs e2 M2 => .exc c fs e2 M2
      | .err => .err
def cFor (mi : MA) (g : D → En → Option En) (b : MS) : MS := fun env M => andS (mi env M) env fun items M1 => forGo g b items env M1
theorem c_for {tg iter : Expr} {body : List Stmt} {pos : Pos} {mi : MA} {js : List Nat} {g : D → En → Option En} {b : MS} (hp : PassesOwn (model X.prog X.w) X.A X.env X.xe) (hc : X.calm = true) (hi : SI X W tg iter mi) (hg : SG X tg js g) (hb : SB X W body b)
    (hs : ∀ x, foldedSetIterable iter X.env x = pure x := by intro _; rfl) : SS X W (.For tg iter body [] pos) (cFor mi g b) := by
  refine ps_imp (ps_for hp hc hi (gW_of hg) hb hs) fun D σ H q => ?_
  obtain ⟨ρ, M, env, Rl, E, q⟩ := q
  refine andS_tm Rl E q fun items M1 ρ1 H1 J R1 E1 wk q1 => ?_
  have wk' : Wk X.K ρ1 H1 J items := wk
  refine ⟨fun i m σ' H' => m = items.length - i ∧ i ≤ items.length ∧ ∃ ρ' M' env', Rel X.K ρ' M' H' ∧ Stp ρ1 H1 ρ' H' ∧ EnR X.K ρ' H' env' σ' ∧ OkS X.K ρ' H' W D (forGo g b (items.drop i) env' M'), ⟨items.length, by simp, Nat.zero_le _, ρ1, M1, env, R1, Stp.refl (K := X.K) (M := M1), E1, by rw [List.drop_zero]; exact q1⟩, ?_⟩
  rintro i m σ' H' ⟨rfl, hi', ρ', M', env', R', S', E', ok'⟩
  by_cases hlt : i < items.length
  · have hx : items[i]? = some items[i] := List.getElem?_eq_getElem hlt
    rw [drop_cons hx] at ok'
    refine .inr ⟨wk'.goes i ρ' M' H' hlt R' (S'.tr R1), fun σ2 H2 => i + 1 ≤ items.length ∧ ∃ ρ2 M2 env2, Rel X.K ρ2 M2 H2 ∧ Stp ρ1 H1 ρ2 H2 ∧ EnR X.K ρ2 H2 env2 σ2 ∧ OkS X.K ρ2 H2 W D (forGo g b (items.drop (i + 1)) env2 M2), fun σ2 H2 p => ⟨items.length - (i + 1), by omega, rfl, p.1, p.2⟩, fun x H2 y => ?_⟩
    obtain ⟨R2, S2, dx⟩ := wk'.yields i ρ' M' H' x H2 items[i] hx R' (S'.tr R1) y
    have okc := ok'.step S2
    unfold forGo at okc
    cases hgx : g items[i] env' with
    | none => rw [hgx] at okc; exact okc.elim
    | some env2 =>
      rw [hgx] at okc
      simp only at okc
      refine ⟨ρ', M', items[i], env', env2, R2, E'.step R' S2, dx, hgx, fun σ2 E2 _ _ => ⟨ρ', M', env2, R2, E2, ?_⟩⟩
      cases hb1 : b env2 M' with
      | nx e3 M3 =>
        rw [hb1] at okc
        exact fun ρ3 H3 σ3 S3 R3 E3 => ⟨hlt, ρ3, M3, e3, R3, (S'.trans S2).trans S3, E3, okc.step S3⟩
      | ct e3 M3 =>
        rw [hb1] at okc
        exact fun ρ3 H3 σ3 S3 R3 E3 => ⟨hlt, ρ3, M3, e3, R3, (S'.trans S2).trans S3, E3, okc.step S3⟩
      | bk e3 M3 => rw [hb1] at okc; exact okc
      | ret d M3 => rw [hb1] at okc; exact okc
      | exc c fs e3 M3 => rw [hb1] at okc; exact okc
      | err => rw [hb1] at okc; exact okc
  · have e : i = items.length := by omega
    subst e
    rw [List.drop_length] at ok'
    exact .inl ⟨wk'.stops ρ' M' H' R' (S'.tr R1), ok' ρ' H' σ' (Stp.refl (K := X.K) (M := M')) R' E'⟩
def whGo (c : MT) (b : MS) : Nat → MS
  | 0, _, _ => .err
  | n + 1, env, M => andS (c env M) env fun k M1 => if k = true then match b env M1 with
      | .nx e2 M2 => whGo c b n e2 M2
      | .ct e2 M2 => whGo c b n e2 M2
      | .bk e2 M2 => .nx e2 M2
      | .ret d M2 => .ret d M2
      | .exc c fs e2 M2 => .exc c fs e2 M2
      | .err => .err
    else .nx env M1
def cWh (n : Nat) (c : MT) (b : MS) : MS := whGo c b n
theorem c_wh (n : Nat) {c : Expr} {body : List Stmt} {pos : Pos} {mc : MT} {b : MS} (hp : PassesOwn (model X.prog X.w) X.A X.env X.xe) (hc : ST X W c mc) (hb : SB X W body b) : SS X W (.While c body [] pos) (cWh n mc b) := by
  refine ps_imp (ps_while hp hc hb) fun D σ H q => ?_
  obtain ⟨ρ, M, env, Rl, E, q⟩ := q
  refine ⟨fun m σ' H' => ∃ ρ' M' env', Rel X.K ρ' M' H' ∧ EnR X.K ρ' H' env' σ' ∧ OkS X.K ρ' H' W D (whGo mc b m env' M'), ⟨n, ρ, M, env, Rl, E, q⟩, ?_⟩
  rintro m σ' H' ⟨ρ', M', env', R', E', ok'⟩
  cases m with
  | zero => exact ok'.elim
  | succ m =>
    unfold whGo at ok'
    refine andS_tm R' E' ok' fun k M1 ρ1 H1 v R1 E1 dv q1 => ?_
    cases (show k = v from dv)
    cases k with
    | false => exact q1 ρ1 H1 σ' (Stp.refl (K := X.K) (M := M1)) R1 E1
    | true =>
      show (if true = true then _ else _)
      rw [if_pos rfl]
      have q1 : OkS X.K ρ1 H1 W D (match b env' M1 with
        | .nx e2 M2 => whGo mc b m e2 M2
        | .ct e2 M2 => whGo mc b m e2 M2
        | .bk e2 M2 => .nx e2 M2
        | .ret d M2 => .ret d M2
        | .exc c fs e2 M2 => .exc c fs e2 M2
        | .err => .err) := q1
      refine ⟨fun σ2 H2 => ∃ ρ2 M2 env2, Rel X.K ρ2 M2 H2 ∧ EnR X.K ρ2 H2 env2 σ2 ∧ OkS X.K ρ2 H2 W D (whGo mc b m env2 M2), fun σ2 H2 p => ⟨m, Nat.lt_succ_self _, p⟩, ⟨ρ1, M1, env', R1, E1, ?_⟩⟩
      cases hb1 : b env' M1 with
      | nx e3 M3 =>
        rw [hb1] at q1
        exact fun ρ3 H3 σ3 S3 R3 E3 => ⟨ρ3, M3, e3, R3, E3, OkS.step S3 q1⟩
      | ct e3 M3 =>
        rw [hb1] at q1
        exact fun ρ3 H3 σ3 S3 R3 E3 => ⟨ρ3, M3, e3, R3, E3, OkS.step S3 q1⟩
      | bk e3 M3 => rw [hb1] at q1; exact q1
      | ret d M3 => rw [hb1] at q1; exact q1
      | exc c fs e3 M3 => rw [hb1] at q1; exact q1
      | err => rw [hb1] at q1; exact q1
end
end Mi

end

section
/-! Mi, tenth part: defs, what they promise, their calls. No text is being shown while they run. -/
namespace Mi
open PySem PySem.Spec PyProof.Rows L2

/-- a promise that is kept wherever nothing is being shown -/
structure FnG (P : Program) (w : World) (K : PySem.W.Frag) (mg : Str → Option Value) (base : Heap) (k : Nat) (f : Addr) (fd : FuncData) (ps : List Str) (sp : Sp) : Prop where
  len : ∀ vs H Q E, sp vs H Q E → vs.length = ps.length
  go : ∀ (A : Around) (outer : List Env) (s : Shared) (H : Hp) (args : Args) (us : List Value) (vs : List V) (Q : VK) (E : XK), Room k A → A.guards = some [] → Env0 P w K mg base A outer s H →
    BindsTo s fd args (ps.zip us) → Vals vs us → sp vs H Q E → codeAny (model P w) A (.call (.ref f) args) (CR (L2.CX P w) outer P w H s Q E) s
section
variable {P : Program} {w : World} {K : PySem.W.Frag} {mg : Str → Option Value} {base : Heap}
theorem FnG.mono {j k : Nat} {f : Addr} {fd : FuncData} {ps : List Str} {sp : Sp} (F : FnG P w K mg base j f fd ps sp) (h : j ≤ k) : FnG P w K mg base k f fd ps sp :=
  ⟨F.len, fun A outer s H args us vs Q E r => F.go A outer s H args us vs Q E (r.mono h)⟩
/-- by its body -/
theorem fng_of {k : Nat} {f : Addr} {x qual : Str} {params : Arguments} {body : List Stmt} {sc : Scope} {dvs : List V} {kws : List (Str × V)} {fd : FuncData} {N ps : List Str} {sp : Sp} (F : FunD K x qual params body sc dvs kws f fd) (S : FnScope N ps sc)
    (ln : ∀ vs H Q E, sp vs H Q E → vs.length = ps.length)
    (hb : ∀ (cdv : Value) (A : Around) (outer : List Env) (s : Shared) (H : Hp) (vs : List V) (Q : VK) (E : XK), Room k (A.deeper (envOfC qual sc s.heap.objs.size f cdv)) → A.guards = some [] → sp vs H Q E →
      ∃ t, PSs (cxOf (L2.CX P w) P w K mg base N qual sc f cdv A outer s H E) body t ∧ t { nx := fun _ H' => Q .non H', rt := Q } (start N vs) H) : FnG P w K mg base (k + 1) f fd ps sp := by
  obtain ⟨oc, od, dV, kV, doc, pm, an, cdv, ct, osl, rfl, lk, hcd, _, _⟩ := F.ex
  refine ⟨ln, fun A outer s H args us vs Q E rm gd e0 bt r hq => ?_⟩
  have inK : K.In s.heap := e0.mod.kin.keeps fun b o e => (e0.bs b o e).1
  have lmt : s.heap.NoLimit := e0.mod.nolimit.keeps fun b o e => (e0.bs b o e).1
  have par : ∀ y ∈ ps.zip us, sc.names.lookup y.1 = some .local ∨ (sc.names.lookup y.1 = some .cell ∧ ((cellsFrom (s.heap.objs.size + 1) sc.names []).lookup y.1).isSome = true) := by
    rintro ⟨n, v⟩ hy
    rcases S.par n (List.of_mem_zip hy).1 with z | z
    · exact .inl z
    · exact .inr ⟨z, PySem.W.cellsFrom_some _ _ _ (.inl z)⟩
  refine codeAny_call_function rm.depth (inK _ _ lk) rfl S.co S.gen rfl (PySem.W.codeRec_of inK hcd) (bt _ _ _ _ (wpAny_newFunctionEnv_cells S.kind par fun env he s1 x => ?_))
  subst he
  refine ⟨lmt.keeps x.toInCall.keep, codeAny_func ?_⟩
  obtain ⟨t, pt, q⟩ := hb cdv A outer s H vs Q E (rm.deeper _) gd hq
  have I0 : Inv (cxOf (L2.CX P w) P w K mg base N qual sc f cdv A outer s H E) [] (start N vs) H s1 := inv_start S rm.hd e0 (ln _ _ _ _ hq) r x
  refine wpAny_mono (pt.run [] s1 _ H _ I0 q) (fun fl s' h => ?_) fun _ _ h => h
  cases fl with
  | ret u =>
    obtain ⟨v, σ', H', J, rv, q⟩ := h
    exact ⟨v, H', J.os, J.bare, J.base, J.hok, rv, q⟩
  | next =>
    obtain ⟨σ', H', J, q⟩ := h
    exact ⟨.non, H', J.os, J.bare, J.base, J.hok, rfl, q⟩
  | brk =>
    obtain ⟨_, _, _, q⟩ := h
    exact q.elim
  | cont =>
    obtain ⟨_, _, _, q⟩ := h
    exact q.elim
end
/-- the callee runs; what it lets out is wished for -/
theorem run_g {X : Cx} {W : WX} {k : Nat} {f : Addr} {fd : FuncData} {ps : List Str} {sp : Sp} {pins : List (Addr × Obj)} {σ : L2.St} {H : Hp} {s : Shared} {Q : VK} {us zs : List Value} {kw : List (Str × Value)} {vs : List V} (F : FnG X.prog X.w X.K X.mg X.base k f fd ps sp)
    (rm : Room k X.A) (gd : X.A.guards = some []) (tk : Takes X W) (I : Inv X pins σ H s) (bt : BindsTo s fd ⟨us, kw⟩ (ps.zip zs)) (r : Vals vs zs) (h : sp vs H Q (fun c d H' => W c d σ H')) :
    wpAny (model X.prog X.w) X.A (call (.ref f) us kw) (EP X pins σ Q) X.xe s := by
  refine wpAny_call (codeAny_mono (F.go X.A X.stack s H ⟨us, kw⟩ zs vs Q _ rm gd I.env0 bt r h) fun res s' hq => ?_)
  cases res with
  | error e => exact tk e s' (XE.of_call I (fun _ _ _ z => z) hq)
  | ok fl =>
    cases fl with
    | ret u => exact I.after hq
    | next => exact hq.elim
    | brk => exact hq.elim
    | cont => exact hq.elim

/-! ### a def as a function on data -/
abbrev MF := List D → MH → R D
def spM (K : PySem.W.Frag) (n : Nat) (m : MF) : Sp := fun vs H Q E => vs.length = n ∧ ∃ ρ M ds, Rel K ρ M H ∧ Dens K ρ H ds vs ∧ Ok K ρ H (DnD K) (fun c d H' => E c d H') Q (m ds M)
/-- a body with so many slots -/
def mFn (n : Nat) (b : MS) : MF := fun ds M => match b (ds.map some ++ List.replicate (n - ds.length) none) M with
  | .nx _ M' => .ok .non M'
  | .ret d M' => .ok d M'
  | .exc c fs _ M' => .exc c fs M'
  | _ => .err
theorem en_start {K : PySem.W.Frag} {ρ : Rho} {H : Hp} {N : List Str} {ds : List D} {vs : List V} (h : Dens K ρ H ds vs) : EnR K ρ H (ds.map some ++ List.replicate (N.length - ds.length) none) (L2.start N vs) := by
  have hl := h.length
  refine ⟨by unfold L2.start; rw [List.length_append, List.length_append, List.length_map, List.length_map, List.length_replicate, List.length_replicate, hl], fun i d e => ?_⟩
  unfold L2.start
  by_cases hi : i < ds.length
  · rw [List.getElem?_append_left (by simpa using hi), List.getElem?_map] at e
    obtain ⟨d', h1, h2⟩ := Option.map_eq_some_iff.mp e
    cases h2
    obtain ⟨v, g1, g2⟩ := h.get h1
    refine ⟨v, ?_, g2⟩
    rw [List.getElem?_append_left (by simpa [← hl] using hi), List.getElem?_map, g1]
    rfl
  · rw [List.getElem?_append_right (by simpa using hi), List.getElem?_replicate] at e
    split at e <;> cases e
/-- a def of the text that is m -/
structure Fm (P : Program) (w : World) (K : PySem.W.Frag) (mg : Str → Option Value) (base : Heap) (k : Nat) (x : Str) (st : Stmt) (dvs : List V) (kws : List (Str × V)) (ps : List Str) (m : MF) : Prop where
  ex : ∃ f fd, mg x = some (.ref f) ∧ FunD K x x (defArgs st) (defBody st) (defScope st) dvs kws f fd ∧ FnG P w K mg base k f fd ps (spM K ps.length m)
theorem Fm.mono {P : Program} {w : World} {K : PySem.W.Frag} {mg : Str → Option Value} {base : Heap} {j k : Nat} {x : Str} {st : Stmt} {dvs : List V} {kws : List (Str × V)} {ps : List Str} {m : MF} (F : Fm P w K mg base j x st dvs kws ps m) (h : j ≤ k) : Fm P w K mg base k x st dvs kws ps m :=
  let ⟨f, fd, a, b, c⟩ := F.ex; ⟨f, fd, a, b, c.mono h⟩
/-- where a def of the text stands -/
def At (K : PySem.W.Frag) (mg : Str → Option Value) (x : Str) (st : Stmt) (dvs : List V) (kws : List (Str × V)) : Prop := ∃ f fd, mg x = some (.ref f) ∧ FunD K x x (defArgs st) (defBody st) (defScope st) dvs kws f fd
theorem fm_of {P : Program} {w : World} {K : PySem.W.Frag} {mg : Str → Option Value} {base : Heap} {k : Nat} {x : Str} {st : Stmt} {dvs : List V} {kws : List (Str × V)} {N ps : List Str} {b : MS} {n : Nat} (a : At K mg x st dvs kws) (S : FnScope N ps (defScope st)) (hn : N.length = n)
    (body : ∀ (X : Cx) (W : WX), X.prog = P → X.w = w → X.K = K → X.mg = mg → X.base = base → X.N = N → X.env.scope = defScope st → X.calm = true → X.fn = (fun _ => true) → Room k X.A → X.A.guards = some [] → Takes X W → X.stack = X.env :: X.outer → X.env.frame = some X.env.locals → X.ex = [] →
      PassesOwn (model X.prog X.w) X.A X.env X.xe → (∃ (qual : Str) (f : Addr) (cdv : Value) (A : Around) (outer : List Env) (s : Shared) (H : Hp) (E : XK), X = cxOf (L2.CX P w) P w K mg base N qual (defScope st) f cdv A outer s H E) → SB X W (defBody st) b) :
    Fm P w K mg base (k + 1) x st dvs kws ps (mFn n b) := by
  obtain ⟨f, fd, hm, F⟩ := a
  refine ⟨f, fd, hm, F, fng_of F S (fun vs H Q E h => h.1) fun cdv A outer s H vs Q E rm gd h => ?_⟩
  obtain ⟨hl, ρ, M, ds, Rl, dd, ok⟩ := h
  have hb := body (cxOf (L2.CX P w) P w K mg base N x (defScope st) f cdv A outer s H E) (fun cls d _ H => E cls d H) rfl rfl rfl rfl rfl rfl rfl rfl rfl rm gd (takes_of rfl rfl rfl rfl) rfl rfl rfl (passes_of rfl) ⟨x, f, cdv, A, outer, s, H, E, rfl⟩
  refine ⟨_, hb, ρ, M, ds.map some ++ List.replicate (n - ds.length) none, Rl, by rw [← hn]; exact en_start dd, ?_⟩
  unfold mFn at ok
  cases e : b (ds.map some ++ List.replicate (n - ds.length) none) M with
  | nx env M1 =>
    rw [e] at ok
    exact fun ρ1 H1 σ1 S1 R1 E1 => ok ρ1 H1 .non S1 R1 (den_non.mpr rfl)
  | ret d M1 => rw [e] at ok; exact ok
  | bk env M1 => rw [e] at ok; exact ok.elim
  | ct env M1 => rw [e] at ok; exact ok.elim
  | exc c fs env M1 =>
    rw [e] at ok
    exact fun ρ1 H1 d σ1 cv cn S1 R1 x1 _ => ok ρ1 H1 d cv cn S1 R1 x1
  | err => rw [e] at ok; exact ok.elim

/-! ### how arguments come to parameters -/
inductive Src where
  | p (i : Nat)
  | k (i : Nat)
  | d (i : Nat)
def pick {α : Type} (us ds ws : List α) : Src → Option α
  | .p i => us[i]?
  | .k i => ws[i]?
  | .d i => ds[i]?
def picks {α : Type} (us ds ws : List α) : List Src → Option (List α)
  | [] => some []
  | c :: cs => (pick us ds ws c).bind fun x => (picks us ds ws cs).map fun xs => x :: xs
theorem Paired.at {α β : Type} {F : α → β → Prop} {xs : List α} {ys : List β} (h : Paired F xs ys) {i : Nat} {x : α} (e : xs[i]? = some x) : ∃ y, ys[i]? = some y ∧ F x y := by
  induction h generalizing i with
  | nil => cases e
  | cons r _ ih =>
    cases i with
    | zero => cases e; exact ⟨_, rfl, r⟩
    | succ i => exact ih (i := i) e
theorem picks_rel {α β : Type} {F : α → β → Prop} {us ds ws : List α} {us' ds' ws' : List β} (h1 : Paired F us us') (h2 : Paired F ds ds') (h3 : Paired F ws ws') : ∀ {cs : List Src} {zs : List α}, picks us ds ws cs = some zs → ∃ zs', picks us' ds' ws' cs = some zs' ∧ Paired F zs zs'
  | [], zs, e => by cases e; exact ⟨[], rfl, .nil⟩
  | c :: cs, zs, e => by
    obtain ⟨x, e1, e2⟩ := Option.bind_eq_some_iff.mp e
    obtain ⟨xs, e3, e4⟩ := Option.map_eq_some_iff.mp e2
    subst e4
    obtain ⟨xs', g1, g2⟩ := picks_rel h1 h2 h3 e3
    have : ∃ y, pick us' ds' ws' c = some y ∧ F x y := by
      cases c with
      | p i => exact Paired.at h1 e1
      | k i => exact Paired.at h3 e1
      | d i => exact Paired.at h2 e1
    obtain ⟨y, g3, g4⟩ := this
    refine ⟨y :: xs', ?_, .cons g4 g2⟩
    show (pick us' ds' ws' c).bind _ = _
    rw [g3]
    show (picks us' ds' ws' cs).map _ = _
    rw [g1]
    rfl
theorem picks_len {α : Type} {us ds ws : List α} : ∀ {cs : List Src} {zs : List α}, picks us ds ws cs = some zs → zs.length = cs.length
  | [], zs, e => by cases e; rfl
  | c :: cs, zs, e => by
    obtain ⟨x, e1, e2⟩ := Option.bind_eq_some_iff.mp e
    obtain ⟨xs, e3, e4⟩ := Option.map_eq_some_iff.mp e2
    subst e4
    rw [List.length_cons, picks_len e3, List.length_cons]
/-- the defaults that fill up, and where each parameter comes from -/
def Bd (K : PySem.W.Frag) (fd : FuncData) (ps : List Str) (n : Nat) (ks : List Str) (dv : List V) (cs : List Src) : Prop :=
  ∃ mv : List Value, Vals dv mv ∧ ∀ (s : Shared) (us ws : List Value), K.In s.heap → us.length = n → ws.length = ks.length → ∃ zs, picks us mv ws cs = some zs ∧ BindsTo s fd ⟨us, ks.zip ws⟩ (ps.zip zs)
section
variable {K : PySem.W.Frag} {x qual : Str} {params : Arguments} {body : List Stmt} {scope : Scope} {kws : List (Str × V)} {f : Addr} {fd : FuncData} {ps ks : List Str} {n : Nat} {cs : List Src}
/-- nothing lacks -/
theorem bd_all (F : FunD K x qual params body scope [] kws f fd)
    (h : ∀ (kV doc pm : Value) (an : Option Addr) (cdv ct : Value) (us ws : List Value), us.length = n → ws.length = ks.length → ∃ zs, picks us [] ws cs = some zs ∧ bindArgs (PySem.W.fnOf x qual params body scope .none kV doc pm an cdv ct) ⟨us, ks.zip ws⟩ = pure (ps.zip zs)) : Bd K fd ps n ks [] cs := by
  obtain ⟨oc, od, dV, kV, doc, pm, an, cdv, ct, osl, rfl, lk, hcd, hD, hK⟩ := F.ex
  rcases hD with ⟨_, rfl⟩ | ⟨e, _⟩
  · refine ⟨[], .nil, fun s us ws X h1 h2 => ?_⟩
    obtain ⟨zs, e1, e2⟩ := h kV doc pm an cdv ct us ws h1 h2
    exact ⟨zs, e1, .of_eq e2⟩
  · exact absurd rfl e
/-- keyword-only ones lack: ms -/
theorem bd_kw (F : FunD K x qual params body scope [] kws f fd) (ms : List (Str × V)) (hm : ∀ q ∈ ms, q ∈ kws) (hk : kws ≠ [])
    (h : ∀ (Dk : Addr) (doc pm : Value) (an : Option Addr) (cdv ct : Value) (us ws mv : List Value), us.length = n → ws.length = ks.length → mv.length = ms.length →
      ∃ zs, picks us mv ws cs = some zs ∧ KwChain Dk ((ms.map (·.1)).zip mv) (bindArgs (PySem.W.fnOf x qual params body scope .none (.ref Dk) doc pm an cdv ct) ⟨us, ks.zip ws⟩) (ps.zip zs)) : Bd K fd ps n ks (ms.map (·.2)) cs := by
  obtain ⟨oc, od, dV, kV, doc, pm, an, cdv, ct, osl, rfl, lk, hcd, hD, hK⟩ := F.ex
  rcases hD with ⟨_, rfl⟩ | ⟨e, _⟩
  · rcases hK with e | ⟨Dk, rfl, hq⟩
    · exact absurd e hk
    · obtain ⟨mv, hl, rk, hv⟩ := kwd_vals (ms := ms) fun q hq' => hq q (hm q hq')
      refine ⟨mv, rk, fun s us ws X h1 h2 => ?_⟩
      obtain ⟨zs, e1, e2⟩ := h Dk doc pm an cdv ct us ws mv h1 h2 hl
      exact ⟨zs, e1, BindsTo.of_looks fun M => KwChain.looks X hv e2⟩
  · exact absurd rfl e
end

/-! ### calls -/
def FixS (K : PySem.W.Frag) (ds : List D) (vs : List V) : Prop := ∀ ρ H, Dens K ρ H ds vs
def SK (X : Cx) (W : WX) (kws : List Keyword) (m : MA) : Prop := PK X kws (tm X.K (DnA X.K) W m)
section
variable {X : Cx} {W : WX}
theorem k_nil : SK X W [] aNil := ⟨fun pos pins s σ H Q I h => pk_nil.run pos pins s σ H Q I (by
  obtain ⟨ρ, M, env, Rl, E, h⟩ := h
  exact h ρ H [] (Stp.refl (K := X.K) (M := M)) Rl (dens_nil.mpr rfl))⟩
theorem k_cons {nm : Option Str} {kpos : Pos} {e : Expr} {kws : List Keyword} {m : ME} {r : MA} (h1 : SE X W e m) (h2 : SK X W kws r) : SK X W (⟨nm, e, kpos⟩ :: kws) (aCons m r) :=
  ⟨fun pos pins s σ H Q I h => (pk_cons h1 h2).run pos pins s σ H Q I (by
    refine tm_bind (f := fun d env M1 => (r env M1).bind fun ds M2 => .ok (d :: ds) M2) h fun d M1 ρ1 H1 v env R1 E1 dv h => ?_
    refine ⟨ρ1, M1, env, R1, E1, h.bind fun ds M2 ρ2 H2 vs _ S R2 dd h => ?_⟩
    exact h ρ2 H2 (v :: vs) (Stp.refl (K := X.K) (M := M2)) R2 (dens_cons.mpr ⟨v, vs, rfl, Den.step R1 S _ _ dv, dd⟩))⟩
/-- the values are there: the def runs -/
theorem call_g {k : Nat} {f : Addr} {fd : FuncData} {ps ks : List Str} {n : Nat} {m : MF} {cs : List Src} {dv : List V} {dd : List D} {pins : List (Addr × Obj)} {σ : L2.St} {H : Hp} {s : Shared} {Q : VK} {us ws : List Value} {vs xs : List V} {ρ : Rho} {M : MH} {ds es : List D}
    (F : FnG X.prog X.w X.K X.mg X.base k f fd ps (spM X.K ps.length m)) (rm : Room k X.A) (gd : X.A.guards = some []) (tk : Takes X W) (bd : Bd X.K fd ps n ks dv cs) (fx : FixS X.K dd dv) (I : Inv X pins σ H s) (Rl : Rel X.K ρ M H) (r : Vals vs us) (r2 : Vals xs ws)
    (d1 : Dens X.K ρ H ds vs) (d2 : Dens X.K ρ H es xs) (hn : ds.length = n) (hk : es.length = ks.length) (hc : cs.length = ps.length)
    (h : Ok X.K ρ H (DnD X.K) (fun c d H' => W c d σ H') Q (match picks ds dd es cs with | some zs => m zs M | none => .err)) : wpAny (model X.prog X.w) X.A (call (.ref f) us (ks.zip ws)) (EP X pins σ Q) X.xe s := by
  obtain ⟨mv, rm', hb⟩ := bd
  obtain ⟨zs, e1, e2⟩ := hb s us ws I.kIn (by rw [← r.length, ← d1.length]; exact hn) (by rw [← r2.length, ← d2.length]; exact hk)
  cases e : picks ds dd es cs with
  | none => rw [e] at h; exact h.elim
  | some ys =>
    rw [e] at h
    obtain ⟨yv, g1, g2⟩ := picks_rel (dens_iff.mp d1) (dens_iff.mp (fx ρ H)) (dens_iff.mp d2) e
    obtain ⟨yu, g3, g4⟩ := picks_rel r rm' r2 g1
    rw [e1] at g3
    cases g3
    exact run_g F rm gd tk I e2 g4 ⟨(picks_len g1).trans hc, ρ, M, ys, Rl, dens_iff.mpr g2, h⟩
end
end Mi

end

section
/-! Mi, eleventh part: calls of the text's defs, of built-ins, of types. -/
namespace Mi
open PySem PySem.Spec PyProof.Rows L2

/-- what a def's body may lean on -/
structure Cg (X : Cx) (W : WX) (k : Nat) : Prop where
  rm : Room k X.A
  gd : X.A.guards = some []
  tk : Takes X W
theorem Cg.cf {X : Cx} {W : WX} {k : Nat} (c : Cg X W k) : Cf X := ⟨by have := c.rm.un; omega, c.gd⟩
theorem Cg.mono {X : Cx} {W : WX} {j k : Nat} (c : Cg X W k) (h : j ≤ k) : Cg X W j := ⟨c.rm.mono h, c.gd, c.tk⟩

/-! ### dead rows -/
def mErr : ME := fun _ _ => .err
def cErr : MS := fun _ _ => .err
section
variable {X : Cx} {W : WX}
theorem s_err {e : Expr} : SE X W e mErr := ⟨fun pins s σ H Q I h => by
  obtain ⟨ρ, M, env, Rl, E, h⟩ := h
  exact h.elim⟩
theorem c_err {st : Stmt} : SS X W st cErr := ⟨fun pins s σ H D I h => by
  obtain ⟨ρ, M, env, Rl, E, h⟩ := h
  exact h.elim⟩
end

/-! ### calls of defs -/
/-- what a def does with what a call gives -/
def callM (f : MF) (n nk : Nat) (cs : List Src) (dd us ws : List D) (M : MH) : R D := if us.length = n ∧ ws.length = nk then (match picks us dd ws cs with | some zs => f zs M | none => .err) else .err
def mCall (f : MF) (n nk : Nat) (cs : List Src) (dd : List D) (a b : MA) : ME := fun env M => (a env M).bind fun us M1 => (b env M1).bind fun ws M2 => callM f n nk cs dd us ws M2
section
variable {X : Cx} {W : WX} {k j : Nat} {x : Str} {st : Stmt} {dvs : List V} {kws : List (Str × V)} {ps ks : List Str} {m : MF} {n : Nat} {cs : List Src} {dv : List V} {dd : List D} {p pos : Pos} {e : Expr} {es : List Expr} {kw : List Keyword} {ma mb : MA}
abbrev Bds (X : Cx) (x : Str) (st : Stmt) (dvs : List V) (kws : List (Str × V)) (ps : List Str) (n : Nat) (ks : List Str) (dv : List V) (cs : List Src) : Prop :=
  ∀ f fd, FunD X.K x x (defArgs st) (defBody st) (defScope st) dvs kws f fd → Bd X.K fd ps n ks dv cs
theorem call_m {f : Addr} {fd : FuncData} {pins : List (Addr × Obj)} {σ : L2.St} {H : Hp} {s : Shared} {Q : VK} {us ws : List Value} {vs xs : List V} {ρ : Rho} {M : MH} {ds es : List D}
    (F : FnG X.prog X.w X.K X.mg X.base j f fd ps (spM X.K ps.length m)) (c : Cg X W k) (hj : j ≤ k) (bd : Bd X.K fd ps n ks dv cs) (fx : FixS X.K dd dv) (hc : cs.length = ps.length) (I : Inv X pins σ H s) (Rl : Rel X.K ρ M H) (r : Vals vs us) (r2 : Vals xs ws)
    (d1 : Dens X.K ρ H ds vs) (d2 : Dens X.K ρ H es xs)
    (h : Ok X.K ρ H (DnD X.K) (fun c d H' => W c d σ H') Q (callM m n ks.length cs dd ds es M)) : wpAny (model X.prog X.w) X.A (call (.ref f) us (ks.zip ws)) (EP X pins σ Q) X.xe s := by
  unfold callM at h
  split at h
  case isTrue g => exact call_g F (c.rm.mono hj) c.gd c.tk bd fx I Rl r r2 d1 d2 g.1 g.2 hc h
  case isFalse => exact h.elim
theorem s_call (F : Fm X.prog X.w X.K X.mg X.base j x st dvs kws ps m) (c : Cg X W k) (hj : j ≤ k) (bd : Bds X x st dvs kws ps n [] dv cs) (fx : FixS X.K dd dv) (ha : SA X W (e :: es) ma) (hg : Gl X x := by rfl) (hc : cs.length = ps.length := by rfl)
    (hdb : (x == ("__debug__" : Str)) = false := by decide) (he : starEach (e :: es) X.env = (false, eval e X.env) :: starEach es X.env := by rfl) (hpl : (backTo pos (starEach es X.env)).any (·.1) = false := by rfl) :
    SE X W (.Call (.Name x p) (e :: es) [] pos) (mCall m n 0 cs dd ma aNil) := by
  obtain ⟨f, fd, hm, F, G⟩ := F.ex
  refine ⟨fun pins s σ H Q I h => ?_⟩
  refine wpAny_Call_Name_kw (ld_glob I hg hm ?_ hdb)
  refine PySem.W.callWith_K (h₀ := X.base) I.ok.mod.kin F.kp (thn (ha.run pos pins s σ H (fun vs H1 => ∃ ρ M ds, Rel X.K ρ M H1 ∧ Dens X.K ρ H1 ds vs ∧ Ok X.K ρ H1 (DnD X.K) (fun c d H' => W c d σ H') Q (callM m n 0 cs dd ds [] M)) I ?_)
    fun us s1 ⟨vs, H1, I1, r, ρ, M, ds, Rl, d1, q⟩ => ⟨I1.kIn, ?_⟩) he hpl
  · refine tm_bind (f := fun ds env M1 => (aNil env M1).bind fun ws M2 => callM m n 0 cs dd ds ws M2) h fun ds M1 ρ1 H1 vs env R1 E1 d1 q => ⟨ρ1, M1, ds, R1, d1, q⟩
  · exact call_m (ks := []) (ws := []) (xs := []) (es := []) G c hj (bd f fd F) fx hc I1 Rl r .nil d1 (dens_nil.mpr rfl) q
theorem s_call0 (F : Fm X.prog X.w X.K X.mg X.base j x st dvs kws ps m) (c : Cg X W k) (hj : j ≤ k) (bd : Bds X x st dvs kws ps 0 [] dv cs) (fx : FixS X.K dd dv) (hg : Gl X x := by rfl) (hc : cs.length = ps.length := by rfl)
    (hdb : (x == ("__debug__" : Str)) = false := by decide) :
    SE X W (.Call (.Name x p) [] [] pos) (mCall m 0 0 cs dd aNil aNil) := by
  obtain ⟨f, fd, hm, F, G⟩ := F.ex
  refine ⟨fun pins s σ H Q I h => ?_⟩
  refine wpAny_Call_Name_kw (ld_glob I hg hm ?_ hdb)
  obtain ⟨ρ, M, env, Rl, E, h⟩ := h
  exact PySem.W.callWith_K0 I.kIn F.kp (call_m (ks := []) (us := []) (vs := []) (ds := []) (ws := []) (xs := []) (es := []) G c hj (bd f fd F) fx hc I Rl .nil .nil (dens_nil.mpr rfl) (dens_nil.mpr rfl) h)
theorem s_callK (F : Fm X.prog X.w X.K X.mg X.base j x st dvs kws ps m) (c : Cg X W k) (hj : j ≤ k) (bd : Bds X x st dvs kws ps n ks dv cs) (fx : FixS X.K dd dv) (ha : SA X W (e :: es) ma) (hk : SK X W kw mb) (hks : (backToKw pos (keywordEach kw X.env)).filterMap (·.1) = ks := by rfl) (hg : Gl X x := by rfl) (hc : cs.length = ps.length := by rfl)
    (hall : (backToKw pos (keywordEach kw X.env)).all (·.1.isSome) = true := by rfl)
    (hdb : (x == ("__debug__" : Str)) = false := by decide) (he : starEach (e :: es) X.env = (false, eval e X.env) :: starEach es X.env := by rfl)
    (hpl : ((backTo pos (starEach (e :: es) X.env)).any (·.1) || (backToKw pos (keywordEach kw X.env)).any (·.1.isNone)) = false := by rfl) :
    SE X W (.Call (.Name x p) (e :: es) kw pos) (mCall m n ks.length cs dd ma mb) := by
  obtain ⟨f, fd, hm, F, G⟩ := F.ex
  refine ⟨fun pins s σ H Q I h => ?_⟩
  refine wpAny_Call_Name_kw (ld_glob I hg hm ?_ hdb)
  refine PySem.W.callWith_KW (h₀ := X.base) I.ok.mod.kin F.kp hall (thn (ha.run pos pins s σ H (fun vs H1 => ∃ ρ M env ds, Rel X.K ρ M H1 ∧ EnR X.K ρ H1 env σ ∧ Dens X.K ρ H1 ds vs ∧ Ok X.K ρ H1 (DnD X.K) (fun c d H' => W c d σ H') Q ((mb env M).bind fun ws M2 => callM m n ks.length cs dd ds ws M2)) I ?_)
    fun us s1 ⟨vs, H1, I1, r, ρ, M, env, ds, Rl, E, d1, q⟩ => ?_) hpl he
  · refine tm_bind (f := fun ds env M1 => (mb env M1).bind fun ws M2 => callM m n ks.length cs dd ds ws M2) h fun ds M1 ρ1 H1 vs env R1 E1 d1 q => ⟨ρ1, M1, env, ds, R1, E1, d1, q⟩
  · refine thn (hk.run pos pins s1 σ H1 (fun xs H2 => ∃ ρ2 M2 es, Rel X.K ρ2 M2 H2 ∧ Dens X.K ρ2 H2 ds vs ∧ Dens X.K ρ2 H2 es xs ∧ Ok X.K ρ2 H2 (DnD X.K) (fun c d H' => W c d σ H') Q (callM m n ks.length cs dd ds es M2)) I1 ?_) fun ws s2 ⟨xs, H2, I2, r2, ρ2, M2, es2, R2, d1', d2, q2⟩ => ⟨I2.kIn, ?_⟩
    · exact ⟨ρ, M, env, Rl, E, q.bind fun es2 M2 ρ2 H2 xs _ S R2 d2 q2 => ⟨ρ2, M2, es2, R2, Dens.step Rl S _ _ d1, d2, q2⟩⟩
    · rw [hks]
      exact call_m G c hj (bd f fd F) fx hc I2 R2 r r2 d1' d2 q2
theorem s_callK0 (F : Fm X.prog X.w X.K X.mg X.base j x st dvs kws ps m) (c : Cg X W k) (hj : j ≤ k) (bd : Bds X x st dvs kws ps 0 ks dv cs) (fx : FixS X.K dd dv) (hk : SK X W kw mb) (hks : (backToKw pos (keywordEach kw X.env)).filterMap (·.1) = ks := by rfl) (hg : Gl X x := by rfl) (hc : cs.length = ps.length := by rfl)
    (hall : (backToKw pos (keywordEach kw X.env)).all (·.1.isSome) = true := by rfl)
    (hdb : (x == ("__debug__" : Str)) = false := by decide)
    (hpl : ((backTo pos (starEach [] X.env)).any (·.1) || (backToKw pos (keywordEach kw X.env)).any (·.1.isNone)) = false := by rfl) :
    SE X W (.Call (.Name x p) [] kw pos) (mCall m 0 ks.length cs dd aNil mb) := by
  obtain ⟨f, fd, hm, F, G⟩ := F.ex
  refine ⟨fun pins s σ H Q I h => ?_⟩
  refine wpAny_Call_Name_kw (ld_glob I hg hm ?_ hdb)
  refine PySem.W.callWith_KW0 (h₀ := X.base) I.ok.mod.kin F.kp hall (thn (hk.run pos pins s σ H (fun xs H2 => ∃ ρ2 M2 es, Rel X.K ρ2 M2 H2 ∧ Dens X.K ρ2 H2 es xs ∧ Ok X.K ρ2 H2 (DnD X.K) (fun c d H' => W c d σ H') Q (callM m 0 ks.length cs dd [] es M2)) I ?_) fun ws s2 ⟨xs, H2, I2, r2, ρ2, M2, es2, R2, d2, q2⟩ => ⟨I2.kIn, ?_⟩) hpl
  · obtain ⟨ρ, M, env, Rl, E, h⟩ := h
    exact ⟨ρ, M, env, Rl, E, Ok.bind (f := fun es M2 => callM m 0 ks.length cs dd [] es M2) h fun es2 M2 ρ2 H2 xs _ S R2 d2 q2 => ⟨ρ2, M2, es2, R2, d2, q2⟩⟩
  · rw [hks]
    exact call_m (us := []) (vs := []) (ds := []) G c hj (bd f fd F) fx hc I2 R2 .nil r2 (dens_nil.mpr rfl) d2 q2
end

/-! ### built-ins -/
def OpNR (X : Cx) (f : Value) (g : OpN) : Prop := ∀ ρ M H xs vs Q, Rel X.K ρ M H → Dens X.K ρ H xs vs → ROk X.K ρ H Q (g xs M) → ∃ r, CallR X f r ∧ r vs H Q
def QuietN (g : OpN) : Prop := ∀ xs M c fs M', g xs M ≠ .exc c fs M'
section
variable {X : Cx} {W : WX} {x : Str} {p pos : Pos} {e : Expr} {es : List Expr} {ma : MA} {g : OpN} {id : String}
theorem mN_o {f : Value} {σ : L2.St} {H : Hp} {Q : VK} (o : OpNR X f g) (q : QuietN g) (h : tm X.K (DnD X.K) W (mN g ma) σ H Q) : tm X.K (DnA X.K) W ma σ H (fun vs H1 => ∃ r, CallR X f r ∧ r vs H1 Q) := by
  refine tm_bind (f := fun xs env M1 => g xs M1) h fun xs M1 ρ1 H1 vs env R1 E1 d1 q1 => o ρ1 M1 H1 xs vs Q R1 d1 (ok_quiet (q xs M1) q1)
theorem s_blt (o : OpNR X (.builtin id) g) (q : QuietN g) (hm : X.mg x = none) (ha : SA X W (e :: es) ma) (hg : Gl X x := by rfl) (hv : bootBuiltins x = some (.builtin id) := by rfl) (hn : x ≠ "__name__" := by decide) (hdb : (x == ("__debug__" : Str)) = false := by decide)
    (he : starEach (e :: es) X.env = (false, eval e X.env) :: starEach es X.env := by rfl) (hpl : (backTo pos (starEach es X.env)).any (·.1) = false := by rfl) : SE X W (.Call (.Name x p) (e :: es) [] pos) (mN g ma) := by
  refine ⟨fun pins s σ H Q I h => ?_⟩
  refine wpAny_Call_Name_kw (ld_blt I hg hm hv ?_ hn hdb)
  exact PyProof.Rows.callWith_builtin1 (thn (ha.run pos pins s σ H _ I (mN_o o q h)) fun us s1 ⟨vs, H1, I1, r1, r, hr, q1⟩ => hr pins s1 σ H1 vs us Q I1 r1 q1) he hpl
theorem s_bty (o : OpNR X (.type id) g) (q : QuietN g) (hm : X.mg x = none) (ha : SA X W (e :: es) ma) (hg : Gl X x := by rfl) (hv : bootBuiltins x = some (.type id) := by rfl) (hn : x ≠ "__name__" := by decide) (hdb : (x == ("__debug__" : Str)) = false := by decide)
    (he : starEach (e :: es) X.env = (false, eval e X.env) :: starEach es X.env := by rfl) (hpl : (backTo pos (starEach es X.env)).any (·.1) = false := by rfl) : SE X W (.Call (.Name x p) (e :: es) [] pos) (mN g ma) := by
  refine ⟨fun pins s σ H Q I h => ?_⟩
  refine wpAny_Call_Name_kw (ld_blt I hg hm hv ?_ hn hdb)
  exact PyProof.Rows.callWith_type1 (thn (ha.run pos pins s σ H _ I (mN_o o q h)) fun us s1 ⟨vs, H1, I1, r1, r, hr, q1⟩ => hr pins s1 σ H1 vs us Q I1 r1 q1) he hpl
/-- a built-in type's name -/
theorem s_tynm {n : String} (hm : X.mg x = none) (hg : Gl X x := by rfl) (hv : bootBuiltins x = some (.type n) := by rfl) (hn : x ≠ "__name__" := by decide) (hdb : (x == ("__debug__" : Str)) = false := by decide) : SE X W (.Name x pos) (mC (.ty n)) :=
  s_const (pe_bltn hg hm hv (show RelV (.ty n) (.type n) from rfl) hn hdb) fun _ _ => den_ty.mpr rfl
end
end Mi

end

section
/-! Mi, twelfth part: len, isinstance, tuple, abs, sum, repr; slices. -/
namespace Mi
open PySem PySem.Spec PyProof.Rows L2
section
variable {X : Cx}
/-! ### a cell's list, read -/
theorem cell_lst {K : PySem.W.Frag} {ρ : Rho} {M : MH} {H : Hp} {l : Nat} {ds : List D} {v : V} (Rl : Rel K ρ M H) (d : Den K ρ H (.ref l) v) (hm : M[l]? = some (.lst ds)) : ∃ a xs, v = .ref a ∧ H a = some (.lst xs) ∧ Dens K ρ H ds xs := by
  obtain ⟨p, o, rfl, hl, ho⟩ := den_ref.mp d
  obtain ⟨b, xs, h1, h2, h3⟩ := Rl.obj l _ hm
  rw [hl] at h1
  cases h1
  have e := ho b rfl
  subst e
  exact ⟨_, xs, rfl, h2, h3⟩
theorem dens_one {K : PySem.W.Frag} {ρ : Rho} {H : Hp} {d : D} {vs : List V} (h : Dens K ρ H [d] vs) : ∃ v, vs = [v] ∧ Den K ρ H d v := by
  obtain ⟨v, r, rfl, h1, h2⟩ := dens_cons.mp h
  rw [dens_nil] at h2
  subst h2
  exact ⟨v, rfl, h1⟩
theorem dens_two {K : PySem.W.Frag} {ρ : Rho} {H : Hp} {d e : D} {vs : List V} (h : Dens K ρ H [d, e] vs) : ∃ v w, vs = [v, w] ∧ Den K ρ H d v ∧ Den K ρ H e w := by
  obtain ⟨v, r, rfl, h1, h2⟩ := dens_cons.mp h
  obtain ⟨w, rfl, h3⟩ := dens_one h2
  exact ⟨v, w, rfl, h1, h3⟩

/-! ### len -/
def lenD : OpN := fun xs M => match xs with
  | [.tup ds] => .ok (.int ds.length) M
  | [.lst ds] => .ok (.int ds.length) M
  | [.str z] => if z.length ≤ lim then .ok (.int z.length) M else .err
  | [.ref l] => match M[l]? with
    | some (.lst ds) => .ok (.int ds.length) M
    | _ => .err
  | _ => .err
theorem q_len : QuietN lenD := by
  intro x M c fs M' e
  unfold lenD at e
  (repeat' split at e) <;> cases e
theorem o_len : OpNR X (.builtin "len") lenD := by
  intro ρ M H xs vs Q Rl dv h
  unfold lenD at h
  split at h
  · obtain ⟨v, rfl, d⟩ := dens_one dv
    obtain ⟨a, ys, rfl, hs, hd⟩ := den_tup.mp d
    exact ⟨_, call_len_seq, a, ys, rfl, .inr hs, by rw [← hd.length]; exact here Rl h (den_int.mpr rfl)⟩
  · obtain ⟨v, rfl, d⟩ := dens_one dv
    obtain ⟨a, ys, rfl, hs, hd⟩ := den_lst.mp d
    exact ⟨_, call_len_seq, a, ys, rfl, .inl hs.sq, by rw [← hd.length]; exact here Rl h (den_int.mpr rfl)⟩
  · obtain ⟨v, rfl, d⟩ := dens_one dv
    rw [den_str] at d
    subst d
    split at h
    · rename_i z zl
      exact ⟨_, call_len_str, z, rfl, lim_le zl, here Rl h (den_int.mpr rfl)⟩
    · exact h.elim
  · obtain ⟨v, rfl, d⟩ := dens_one dv
    split at h
    · rename_i ds hm
      obtain ⟨a, ys, rfl, hs, hd⟩ := cell_lst Rl d hm
      exact ⟨_, call_len_seq, a, ys, rfl, .inl (SqL.of hs), by rw [← hd.length]; exact here Rl h (den_int.mpr rfl)⟩
    · exact h.elim
  · exact h.elim

/-! ### isinstance(x, T), T a built-in type -/
def tyName (M : MH) : D → Option String
  | .non => some "NoneType"
  | .bl _ => some "bool"
  | .int _ => some "int"
  | .str _ => some "str"
  | .tup _ => some "tuple"
  | .lst _ => some "list"
  | .dct _ _ => some "dict"
  | .ref l => match M[l]? with
    | some (.lst _) => some "list"
    | some (.dct _) => some "dict"
    | _ => none
  | _ => none
def tyNames : List String := ["NoneType", "bool", "int", "str", "tuple", "list", "dict"]
def isB (t n : String) : Bool := t == n || (t == "bool" && n == "int")
theorem isB_kit : ∀ t ∈ tyNames, ∀ n ∈ tyNames, kitB t n = some (isB t n) := by decide +kernel
theorem tyName_in {M : MH} {d : D} {t : String} (e : tyName M d = some t) : t ∈ tyNames := by
  unfold tyName at e
  split at e <;> first
    | (cases e; decide)
    | (split at e <;> first | (cases e; decide) | cases e)
    | cases e
theorem tyName_x {K : PySem.W.Frag} {ρ : Rho} {M : MH} {H : Hp} {d : D} {v : V} {t : String} (Rl : Rel K ρ M H) (dv : Den K ρ H d v) (e : tyName M d = some t) : TyX K H v (.type t) := by
  have tup : ∀ {a : Addr} {xs : List V}, SqT K H a xs → TyX K H (.ref a) (.type "tuple") := fun h => by
    rcases h with h | ⟨o, its, n, hk, hc, _⟩
    · rcases h with h | ⟨o, h⟩
      · exact .base (.tup h)
      · exact .fTuple h
    · exact .kTuple hk hc
  have lst : ∀ {a : Addr} {xs : List V}, SqL K H a xs → TyX K H (.ref a) (.type "list") := fun h => by
    rcases h with h | ⟨o, its, n, hk, hc, _⟩
    · rcases h with h | ⟨o, h⟩
      · exact .base (.lst h)
      · exact .base (.frz h)
    · exact .kList hk hc
  unfold tyName at e
  split at e
  · cases e; rw [den_non] at dv; subst dv; exact .base .non
  · cases e; rw [den_bl] at dv; subst dv; exact .base (.bl _)
  · cases e; rw [den_int] at dv; subst dv; exact .base (.int _)
  · cases e; rw [den_str] at dv; subst dv; exact .base (.str _)
  · cases e; obtain ⟨a, xs, rfl, hs, _⟩ := den_tup.mp dv; exact tup hs
  · cases e; obtain ⟨a, xs, rfl, hs, _⟩ := den_lst.mp dv; exact lst hs.sq
  · cases e; obtain ⟨a, kvs, rfl, hs, _⟩ := den_dct.mp dv; exact .base (.dK hs)
  · split at e
    · rename_i ds hm
      cases e
      obtain ⟨a, ys, rfl, hs, hd⟩ := cell_lst Rl dv hm
      exact .base (.lst hs)
    · rename_i kvs hm
      cases e
      obtain ⟨p, o, rfl, hl, ho⟩ := den_ref.mp dv
      obtain ⟨b, ks, h1, h2, h3⟩ := Rl.obj _ _ hm
      rw [hl] at h1
      cases h1
      have e := ho b rfl
      subst e
      exact .base (.dK h2)
    · cases e
  · cases e
def isiD : OpN := fun xs M => match xs with
  | [d, .ty n] => match tyName M d with
    | some t => if n ∈ tyNames then .ok (.bl (isB t n)) M else .err
    | none => .err
  | _ => .err
theorem q_isi : QuietN isiD := by
  intro x M c fs M' e
  unfold isiD at e
  (repeat' split at e) <;> cases e
theorem o_isi : OpNR X (.builtin "isinstance") isiD := by
  intro ρ M H xs vs Q Rl dv h
  unfold isiD at h
  split at h
  · rename_i d n
    obtain ⟨v, w, rfl, d1, d2⟩ := dens_two dv
    rw [den_ty] at d2
    subst d2
    split at h
    · rename_i t e
      split at h
      · rename_i hn
        exact ⟨_, call_isi, v, .ty n, .type t, .type n, isB t n, rfl, .ty n, tyName_x Rl d1 e, kit_ty (isB_kit t (tyName_in e) n hn), here Rl h (den_bl.mpr rfl)⟩
      · exact h.elim
    · exact h.elim
  · exact h.elim

/-! ### tuple(xs), abs(i) -/
def tupOfD : OpN := fun xs M => match xs with
  | [.tup ds] => .ok (.tup ds) M
  | [.lst ds] => .ok (.tup ds) M
  | [.ref l] => match M[l]? with
    | some (.lst ds) => .ok (.tup ds) M
    | _ => .err
  | _ => .err
theorem q_tupOf : QuietN tupOfD := by
  intro x M c fs M' e
  unfold tupOfD at e
  (repeat' split at e) <;> cases e
theorem o_tupOf : OpNR X (.type "tuple") tupOfD := by
  intro ρ M H xs vs Q Rl dv h
  unfold tupOfD at h
  split at h
  · obtain ⟨v, rfl, d⟩ := dens_one dv
    have d' := d
    obtain ⟨a, ys, rfl, hs, hd⟩ := den_tup.mp d
    exact ⟨_, call_tuple_of, a, ys, rfl, .inr ⟨hs, here Rl h d'⟩⟩
  · obtain ⟨v, rfl, d⟩ := dens_one dv
    obtain ⟨a, ys, rfl, hs, hd⟩ := den_lst.mp d
    exact ⟨_, call_tuple_of, a, ys, rfl, .inl ⟨hs.sq, newT Rl h hd⟩⟩
  · obtain ⟨v, rfl, d⟩ := dens_one dv
    split at h
    · rename_i ds hm
      obtain ⟨a, ys, rfl, hs, hd⟩ := cell_lst Rl d hm
      exact ⟨_, call_tuple_of, a, ys, rfl, .inl ⟨SqL.of hs, newT Rl h hd⟩⟩
    · exact h.elim
  · exact h.elim
def absD : OpN := fun xs M => match xs with
  | [.int i] => .ok (.int i.natAbs) M
  | _ => .err
theorem q_abs : QuietN absD := by
  intro x M c fs M' e
  unfold absD at e
  split at e <;> cases e
theorem o_abs : OpNR X (.builtin "abs") absD := by
  intro ρ M H xs vs Q Rl dv h
  unfold absD at h
  split at h
  · rename_i i
    refine ⟨_, call_abs, i, dens_ints_inv (ns := [i]) dv, ?_⟩
    have e : (if i < 0 then -i else i) = (i.natAbs : Int) := by split <;> omega
    rw [e]
    exact here Rl h (den_int.mpr rfl)
  · exact h.elim

/-! ### sum of whole numbers, in a list or a tuple -/
def intsD : List D → Option (List Int)
  | [] => some []
  | .int i :: ds => (intsD ds).map (i :: ·)
  | _ :: _ => none
theorem intsD_eq : ∀ {ds : List D} {ns : List Int}, intsD ds = some ns → ds = ns.map D.int
  | [], ns, e => by cases e; rfl
  | .int i :: ds, ns, e => by
    obtain ⟨ms, e1, e2⟩ := Option.map_eq_some_iff.mp (show (intsD ds).map (i :: ·) = some ns from e)
    subst e2
    rw [List.map_cons, intsD_eq e1]
  | .non :: _, _, e => by cases e
  | .bl _ :: _, _, e => by cases e
  | .str _ :: _, _, e => by cases e
  | .ty _ :: _, _, e => by cases e
  | .adr _ :: _, _, e => by cases e
  | .ref _ :: _, _, e => by cases e
  | .tup _ :: _, _, e => by cases e
  | .lst _ :: _, _, e => by cases e
  | .dct _ _ :: _, _, e => by cases e
  | .fn _ :: _, _, e => by cases e
  | .exo _ _ _ _ :: _, _, e => by cases e
theorem intsD_map (ns : List Int) : intsD (ns.map D.int) = some ns := by
  induction ns with
  | nil => rfl
  | cons n ns ih =>
    show (intsD (ns.map D.int)).map (n :: ·) = _
    rw [ih]
    rfl
def sumD : OpN := fun xs M => match xs with
  | [.lst ds] => match intsD ds with
    | some ns => .ok (.int ns.sum) M
    | none => .err
  | [.tup ds] => match intsD ds with
    | some ns => .ok (.int ns.sum) M
    | none => .err
  | _ => .err
theorem q_sum : QuietN sumD := by
  intro x M c fs M' e
  unfold sumD at e
  (repeat' split at e) <;> cases e
theorem sum_tup (hc : X.calm = true) : CallR X (.builtin "sum") (fun vs H Q => ∃ (a : Addr) (ns : List Int), vs = [V.ref a] ∧ SqT X.K H a (ns.map V.int) ∧ Q (.int ns.sum) H) := by
  intro pins s σ H vs us Q I r h
  obtain ⟨a, ns, rfl, hs, q⟩ := h
  obtain ⟨its, rv, ht, _⟩ := I.tuple hs
  rw [Vals.ref1 r]
  have hi : IntsAre its ns := intsAre_of rv
  obtain ⟨xs, e⟩ := hi.allInts.items
  have hn : numsOf (intItems xs).toList = ns := by rw [← e]; exact hi.numsOf
  rw [nums_intItems] at hn
  rw [e] at ht
  refine PySem.call_sum_walkG (PyProof.Rows.iter_tuple ht ?_)
  have hlt : a < s.heap.objs.size := by obtain ⟨_, e, _⟩ := ht; exact Heap.lt_size e
  have hh : X.A.in1.handled = none := I.ok.hd hc
  refine ⟨_, _, _, _, _, _, numAt xs, rfl, Walks.tuple (A := X.A.in1) hh _ a (Nat.ne_of_lt hlt) (intItems xs), ⟨⟨_, Heap.get?_push_size _ rfl, rfl, rfl⟩, ?_⟩, fun b hb => ?_, (fun _ _ => intItems_at), fun h' tk t' hk => ?_⟩
  · obtain ⟨o, e1, e2, e3⟩ := ht
    exact ⟨o, Heap.get?_push_of_some _ e1, e2, e3⟩
  · show b < (s.heap.push _).objs.size
    rw [Heap.size_push]
    rcases List.mem_cons.mp hb with e | hb
    · exact e ▸ Nat.lt_succ_self _
    · rcases List.mem_cons.mp hb with e | hb
      · exact e ▸ Nat.lt_succ_of_lt hlt
      · cases hb
  · have k : ∀ b o, s.heap.get? b = some o → h'.get? b = some o := fun b o e => by
      refine hk b o (fun hm => ?_) (Heap.get?_push_of_some _ e)
      rcases List.mem_cons.mp hm with e1 | hm
      · have z := Heap.lt_size e
        rw [e1] at z
        exact Nat.lt_irrefl _ z
      · cases hm
    refine ⟨.int _, H, I.kept k, ⟨_, rfl⟩, ?_⟩
    have e3 : preSum (numAt xs) (intItems xs).size = ns.sum := by
      rw [preSum_eq, List.take_of_length_le (by simp [intItems]), hn]
    rw [e3]
    exact q
theorem o_sum (hc : X.calm = true) : OpNR X (.builtin "sum") sumD := by
  intro ρ M H xs vs Q Rl dv h
  unfold sumD at h
  split at h
  · obtain ⟨v, rfl, d⟩ := dens_one dv
    obtain ⟨a, ys, rfl, hs, hd⟩ := den_lst.mp d
    split at h
    · rename_i ns e
      rw [intsD_eq e] at hd
      rw [dens_ints_inv hd] at hs
      exact ⟨_, cr_sum hc, a, ns, rfl, hs.sq, here Rl h (den_int.mpr rfl)⟩
    · exact h.elim
  · obtain ⟨v, rfl, d⟩ := dens_one dv
    obtain ⟨a, ys, rfl, hs, hd⟩ := den_tup.mp d
    split at h
    · rename_i ns e
      rw [intsD_eq e] at hd
      rw [dens_ints_inv hd] at hs
      exact ⟨_, sum_tup hc, a, ns, rfl, hs, here Rl h (den_int.mpr rfl)⟩
    · exact h.elim
  · exact h.elim
end
end Mi

end

section
/-! Mi, thirteenth part: repr, slices, tables of the text, items written. -/
namespace Mi
open PySem PySem.Spec PyProof.Rows L2

/-! ### repr of a tuple or a list of plain things -/
mutual
theorem py_noDict : ∀ d : D, PyData.hasDict (py d) = false
  | .non => rfl
  | .bl _ => rfl
  | .int _ => rfl
  | .str _ => rfl
  | .ty _ => rfl
  | .adr _ => rfl
  | .ref _ => rfl
  | .dct _ _ => rfl
  | .fn _ => rfl
  | .exo _ _ _ _ => rfl
  | .tup ds => by simp only [py, PyData.hasDict]; exact pys_noDict ds
  | .lst ds => by simp only [py, PyData.hasDict]; exact pys_noDict ds
theorem pys_noDict : ∀ ds : List D, PyData.hasDictAll (pys ds) = false
  | [] => rfl
  | d :: ds => by simp only [pys, PyData.hasDictAll, py_noDict d, pys_noDict ds, Bool.or_false]
end
def seqLike : D → Bool
  | .tup _ => true
  | .lst _ => true
  | _ => false
def shows (d : D) : Bool := flat d 60 && PyData.showable (py d) && decide ((PyData.shown (py d)).length ≤ lim)
def reprD : OpN := fun xs M => match xs with
  | [d] => if seqLike d && shows d then .ok (.str (PyData.shown (py d))) M else .err
  | _ => .err
theorem q_repr : QuietN reprD := by
  intro x M c fs M' e
  unfold reprD at e
  (repeat' split at e) <;> cases e
section
variable {X : Cx}
theorem cr_repr (c : Cf X) : CallR X (.builtin "repr") (fun xs H Q => ∃ a d, xs = [V.ref a] ∧ Dp X.K H (.ref a) d ∧ PyData.hasDict d = false ∧ PyData.showable d = true ∧ PyData.depth d ≤ 60 ∧ (PyData.shown d).length ≤ sizeLine ∧ Q (.str (PyData.shown d)) H) := by
  intro pins s σ H xs us Q I r h
  obtain ⟨a, d, rfl, dp, nd, sh, dd, hz, q⟩ := h
  rw [Vals.ref1 r]
  obtain ⟨as, rd⟩ := Dp.reads I d (.ref a) (.ref a) dp rfl
  exact repr_of_reads' rd sh (PyData.noDict_hsm nd) c.guards (by have := c.hu; omega) (fun _ _ e => e) (fun h' u tk hk => ⟨.str _, H, I.kept hk, ⟨_, rfl⟩, q⟩) hz
theorem o_repr (c : Cf X) : OpNR X (.builtin "repr") reprD := by
  intro ρ M H xs vs Q Rl dv h
  unfold reprD at h
  split at h
  · rename_i d
    obtain ⟨v, rfl, d1⟩ := dens_one dv
    split at h
    · rename_i z
      rw [Bool.and_eq_true] at z
      have z2 := z.2
      unfold shows at z2
      simp only [Bool.and_eq_true, decide_eq_true_eq] at z2
      have dp := flat_dp d 60 v z2.1.1 d1
      have hv : ∃ a, v = .ref a := by
        cases d <;> first
          | (cases z.1; done)
          | (obtain ⟨a, ys, rfl, _⟩ := den_tup.mp d1; exact ⟨a, rfl⟩)
          | (obtain ⟨a, ys, rfl, _⟩ := den_lst.mp d1; exact ⟨a, rfl⟩)
      obtain ⟨a, rfl⟩ := hv
      exact ⟨_, cr_repr c, a, py d, rfl, dp, py_noDict d, z2.1.2, (flat_can d 60 z2.1.1).2, lim_le z2.2, here Rl h (den_str.mpr rfl)⟩
    · exact h.elim
  · exact h.elim

/-! ### slices -/
abbrev MP := En → MH → R (Option Int)
abbrev DnO : Rho → Hp → Option Int → Option Int → Prop := fun _ _ a b => a = b
def SPa (X : Cx) (W : WX) (e : Option Expr) (m : MP) : Prop := PO X e (tm X.K DnO W m)
def mNoP : MP := fun _ M => .ok none M
def mPart (m : ME) : MP := fun env M => (m env M).bind fun d M1 => match d with
  | .int i => .ok (some i) M1
  | _ => .err
variable {W : WX}
theorem po_imp {e : Option Expr} {t t' : TO} (h : PO X e t) (i : ∀ σ H Q, t' σ H Q → t σ H Q) : PO X e t' := ⟨fun pins s σ H Q I q => h.run pins s σ H Q I (i σ H Q q)⟩
theorem p_no : SPa X W none mNoP := po_imp po_none fun σ H Q h => by
  obtain ⟨ρ, M, env, Rl, E, h⟩ := h
  exact h ρ H none (Stp.refl (K := X.K) (M := M)) Rl rfl
theorem p_some {e : Expr} {m : ME} (h : SE X W e m) : SPa X W (some e) (mPart m) := po_imp (po_some h) fun σ H Q h => by
  refine tm_bind (f := fun d env M1 => match d with | .int i => .ok (some i) M1 | _ => .err) h fun d M1 ρ1 H1 v env R1 E1 dv q => ?_
  split at q
  · rename_i i
    exact ⟨i, den_int.mp dv, q ρ1 H1 (some i) (Stp.refl (K := X.K) (M := M1)) R1 rfl⟩
  · exact q.elim
def cutD (ds : List D) (lo hi : Option Int) : List D := (ds.drop (HT.sIx ds.length 0 lo)).take (HT.sIx ds.length ds.length hi - HT.sIx ds.length 0 lo)
theorem Dens.cut {K : PySem.W.Frag} {ρ : Rho} {H : Hp} {ds : List D} {xs : List V} (h : Dens K ρ H ds xs) (lo hi : Option Int) : Dens K ρ H (cutD ds lo hi) (cutV xs lo hi) := by
  unfold cutD cutV
  rw [h.length]
  exact (h.drop _).take _
def sliceD (lo hi : Option Int) : Op1 := fun x M => match x with
  | .tup ds => .ok (.tup (cutD ds lo hi)) M
  | .lst ds => .ok (.lst (cutD ds lo hi)) M
  | .ref l => match M[l]? with
    | some (.lst ds) => .ok (.lst (cutD ds lo hi)) M
    | _ => .err
  | .str z => if z.length ≤ lim then .ok (.str (cutS z lo hi)) M else .err
  | _ => .err
theorem q_slice {lo hi : Option Int} {x : D} {M : MH} : ∀ c fs M', sliceD lo hi x M ≠ .exc c fs M' := by
  intro c fs M' e
  unfold sliceD at e
  (repeat' split at e) <;> cases e
def rSlD (K : PySem.W.Frag) : V → Option Int → Option Int → Hp → VK → Prop := fun x lo hi H Q => rSlA K x lo hi H Q ∨ rSlL K x lo hi H Q ∨ rSlS x lo hi H Q
theorem sl_D : SlR X (rSlD X.K) := sl_tupA.or (sl_list.or sl_str)
theorem cutD_all {ds : List D} {lo hi : Option Int} (h1 : HT.sIx ds.length 0 lo = 0) (h2 : HT.sIx ds.length ds.length hi = ds.length) : cutD ds lo hi = ds := by
  unfold cutD
  rw [h1, h2]
  simp
theorem o_slice {ρ : Rho} {M : MH} {H : Hp} {x : D} {v : V} {lo hi : Option Int} {Q : VK} (Rl : Rel X.K ρ M H) (dx : Den X.K ρ H x v) (h : ROk X.K ρ H Q (sliceD lo hi x M)) : rSlD X.K v lo hi H Q := by
  unfold sliceD at h
  split at h
  · rename_i ds
    have dx' := dx
    obtain ⟨a, xs, rfl, hs, hd⟩ := den_tup.mp dx
    refine .inl ⟨a, xs, rfl, hs, fun z => ?_, fun _ => newT Rl h (hd.cut lo hi)⟩
    rw [← hd.length] at z
    rw [cutD_all z.1 z.2] at h
    exact here Rl h dx'
  · obtain ⟨a, xs, rfl, hs, hd⟩ := den_lst.mp dx
    exact .inr (.inl ⟨a, xs, rfl, hs.sq, newL Rl h (hd.cut lo hi)⟩)
  · split at h
    · rename_i ds hm
      obtain ⟨a, ys, rfl, hs, hd⟩ := cell_lst Rl dx hm
      exact .inr (.inl ⟨a, ys, rfl, SqL.of hs, newL Rl h (hd.cut lo hi)⟩)
    · exact h.elim
  · rename_i z
    rw [den_str] at dx
    split at h
    · rename_i zl
      exact .inr (.inr ⟨z, dx, lim_le zl, here Rl h (den_str.mpr rfl)⟩)
    · exact h.elim
  · exact h.elim
def mSl (m : ME) (ml mh : MP) : ME := fun env M => (m env M).bind fun x M1 => (ml env M1).bind fun lo M2 => (mh env M2).bind fun hi M3 => sliceD lo hi x M3
theorem s_sl {e : Expr} {lo hi : Option Expr} {p2 pos : Pos} {m : ME} {ml mh : MP} (he : SE X W e m) (hl : SPa X W lo ml) (hh : SPa X W hi mh) : SE X W (.Subscript e (.Slice lo hi none p2) pos) (mSl m ml mh) := by
  refine pe_imp (pe_slice sl_D he hl hh) fun σ H Q h => ?_
  refine tm_bind (f := fun x env M1 => (ml env M1).bind fun lo M2 => (mh env M2).bind fun hi M3 => sliceD lo hi x M3) h fun x M1 ρ1 H1 v env R1 E1 dx h => ?_
  refine ⟨ρ1, M1, env, R1, E1, h.bind fun l M2 ρ2 H2 o _ S R2 eo h => ?_⟩
  obtain rfl : l = o := eo
  refine ⟨ρ2, M2, env, R2, E1.step R1 S, h.bind fun u M3 ρ3 H3 o' _ S' R3 eo' h => ?_⟩
  obtain rfl : u = o' := eo'
  exact o_slice R3 (Den.step R2 S' _ _ (Den.step R1 S _ _ dx)) (ok_quiet q_slice h)

/-! ### t[::-1] -/
theorem adjust_rev (n : Nat) : Builtin.Slice.sliceAdjust none none (-1) (n : Int) = ((n : Int) - 1, -1) := by
  unfold Builtin.Slice.sliceAdjust
  simp
theorem places_rev (n : Nat) : Builtin.Slice.slicePlaces ((n : Int) - 1) (-1) (-1) = n := by
  unfold Builtin.Slice.slicePlaces
  rw [if_neg (by decide)]
  split
  · rw [show (- -1 : Int) = 1 by decide, Int.ediv_one]
    omega
  · omega
theorem fm_map {α β : Type} {f : α → Option β} {g : α → β} : ∀ {l : List α}, (∀ x ∈ l, f x = some (g x)) → l.filterMap f = l.map g
  | [], _ => rfl
  | x :: l, h => by
    rw [List.filterMap_cons, h x (List.mem_cons_self ..), List.map_cons, fm_map fun y hy => h y (List.mem_cons_of_mem _ hy)]
theorem pick_rev (xs : Array Value) : ((List.range xs.size).filterMap fun (k : Nat) => xs[(((xs.size : Int) - 1) + (k : Int) * -1).toNat]?).toArray = xs.toList.reverse.toArray := by
  congr 1
  apply List.ext_getElem?
  intro i
  have e : (List.range xs.size).filterMap (fun (k : Nat) => xs[(((xs.size : Int) - 1) + (k : Int) * -1).toNat]?) = (List.range xs.size).map fun k => xs.getD (xs.size - 1 - k) .none := by
    refine fm_map fun k hk => ?_
    have hk' := List.mem_range.mp hk
    have e1 : (((xs.size : Int) - 1) + (k : Int) * -1).toNat = xs.size - 1 - k := by omega
    rw [e1]
    have hlt : xs.size - 1 - k < xs.size := by omega
    simp [Array.getD, hlt]
  rw [e, List.getElem?_map]
  by_cases hi : i < xs.size
  · rw [List.getElem?_range hi, List.getElem?_reverse (by simpa using hi)]
    have hlt : xs.size - 1 - i < xs.size := by omega
    simp [Array.getD, hlt]
  · rw [List.getElem?_eq_none (by simpa using hi), List.getElem?_eq_none (by simpa using hi)]
    rfl
theorem tup_rev {prog : Program} {w : World} {A : Around} {E : Value → Shared → Prop} {s : Shared} {t sl : Addr} {u : Tok} {items : Array Value} {Q : Value → Shared → Prop} (ht : IsTup s.heap t items) (hs : s.heap.IsSliceOf sl .none .none (.int (-1) u))
    (h : Q (.ref s.heap.objs.size) { s with heap := s.heap.push { cls := .type "tuple", data := .seq items.toList.reverse.toArray } })
    (hsz : items.size ≤ sizeLine) : wpAny (model prog w) A (getItem (.ref t) (.ref sl)) Q E s := by
  have fits : sizeOk (.seq items.toList.reverse.toArray) := by
    show items.toList.reverse.toArray.size ≤ sizeLine
    simpa using hsz
  obtain ⟨os, hos, hcs, hds⟩ := id hs
  have hTs : s.TypeIs (.ref sl) "slice" := ⟨os, hos, hcs⟩
  unfold getItem
  try with_reducible refine wpAny_holding ?_
  first | refine wpAny_bind (wpAny_pure ?_) | skip
  refine wpAny_bind (wpAny_sequenceKey ht.typeIs (by decide) ?_)
  refine wpAny_bind (wpAny_callSpecial?_slot (name := Str.ofString "__getitem__") ht.typeIs PyProof.Rows.slot_tuple_getitem
    (wpAny_call_entry PyProof.Rows.slot_tuple_getitem ht.typeIs entry_tuple_getitem ?_ (args_tuple_getitem _ _)))
  show wpAny _ _ (Builtin.Tuple.tupleItemsOf (.ref t) >>= _) _ _ s
  refine wpAny_bind (tupleItemsOf_ ht ?_)
  refine wpAny_bind (wpAny_typeOf hTs ?_)
  rw [if_pos (by decide)]
  have ap : ∀ {Q' : Int × Int × Nat → Shared → Prop}, Q' ((items.size : Int) - 1, -1, items.size) s → ∀ {A' : Around} {E' : Value → Shared → Prop}, wpAny (model prog w) A' (Builtin.Slice.sliceApplied (.ref sl) (pure (items.size : Int))) Q' E' s := fun {Q'} q {A' E'} => by
    unfold Builtin.Slice.sliceApplied Builtin.Slice.sliceFields
    refine wpAny_bind (wpAny_bind (wpAny_field hos hds (x := .none) rfl (wpAny_bind (wpAny_field hos hds (x := .none) rfl (wpAny_bind (wpAny_field hos hds (x := .int (-1) u) rfl (wpAny_pure ?_)))))))
    refine wpAny_bind (slicePart_int ?_)
    show wpAny _ _ (if ((-1 : Int) == 0) = true then _ else _) _ _ s
    rw [if_neg (by decide)]
    refine wpAny_bind (slicePart_none (wpAny_bind (slicePart_none (wpAny_bind (wpAny_pure ?_)))))
    show wpAny _ _ (match Builtin.Slice.sliceAdjust none none (-1) (items.size : Int) with | (lo, hi) => pure (lo, (-1 : Int), Builtin.Slice.slicePlaces lo hi (-1))) _ _ s
    rw [adjust_rev]
    show wpAny _ _ (pure ((items.size : Int) - 1, (-1 : Int), Builtin.Slice.slicePlaces ((items.size : Int) - 1) (-1) (-1))) _ _ s
    rw [places_rev]
    exact wpAny_pure q
  refine wpAny_bind (ap ?_)
  have hno : ¬ (((((items.size : Int) - 1) == 0) && ((-1 : Int) == 1) && (items.size == items.size)) = true) := by
    intro q
    rw [Bool.and_eq_true, Bool.and_eq_true] at q
    have q2 : ((-1 : Int) == 1) = true := q.1.2
    revert q2
    decide
  show wpAny _ _ (if (((((items.size : Int) - 1) == 0) && ((-1 : Int) == 1) && (items.size == items.size)) = true) then _ else _) _ _ s
  rw [if_neg hno, pick_rev]
  first
    | exact wpAny_bind (m := Builtin.Tuple.tupleExact _) (wpAny_newObj_type (wpAny_pure ⟨_, rfl, wpAny_pure h⟩) fits)
    | exact wpAny_bind (m := Builtin.Tuple.tupleExact _) (wpAny_newObj_type (wpAny_bind (wpAny_pure (wpAny_pure ⟨_, rfl, wpAny_pure h⟩))) fits)
    | exact wpAny_bind (wpAny_bind (m := Builtin.Tuple.tupleExact _) (wpAny_newObj_type (wpAny_pure (wpAny_pure ⟨_, rfl, wpAny_pure h⟩)) fits))
    | exact wpAny_bind (wpAny_bind (m := Builtin.Tuple.tupleExact _) (wpAny_newObj_type (wpAny_pure ⟨_, rfl, wpAny_pure h⟩) fits))
def revD : Op2 := fun x y M => match x, y with
  | .tup ds, .int i => if i = -1 then .ok (.tup ds.reverse) M else .err
  | _, _ => .err
theorem s_rev {e k : Expr} {p2 pos : Pos} {me mk : ME} (he : SE X W e me) (hk : SE X W k mk) (hn : evalPart (some k) X.env = eval k X.env := by rfl) (hs1 : ∀ o i, subscripted (.Slice none none (some k) p2) false o i = operate [o, i] (getItem o i) := by intro _ _; rfl) : SE X W (.Subscript e (.Slice none none (some k) p2) pos) (m2 revD me mk) := by
  refine ⟨fun pins s σ H Q I h => ?_⟩
  refine Subscript_ (thn (he.run pins s σ H (fun x H1 => ∃ ρ M env d, Rel X.K ρ M H1 ∧ EnR X.K ρ H1 env σ ∧ Den X.K ρ H1 d x ∧ Ok X.K ρ H1 (DnD X.K) (fun c d H' => W c d σ H') Q ((mk env M).bind fun y M2 => revD d y M2)) I ?_) fun v s1 ⟨x, H1, I1, r1, ρ, M, env, d, R1, E1, dx, q1⟩ => ?_)
  · exact tm_bind (f := fun x env M1 => (mk env M1).bind fun y M2 => revD x y M2) h fun x M1 ρ1 H1 v env R1 E1 dx h => ⟨ρ1, M1, env, x, R1, E1, dx, h⟩
  refine wpAny_Slice ?_
  rw [evalPart_none]
  refine wpAny_pure (wpAny_pure ?_)
  rw [hn]
  refine thn (hk.run pins s1 σ H1 (fun y H2 => ∃ a xs, x = .ref a ∧ SqT X.K H2 a xs ∧ y = .int (-1) ∧ ∀ p, H2 p = none → Q (.ref p) (upd H2 p (.tup xs.reverse))) I1 ?_) fun u s2 ⟨y, H2, I2, r2, a, xs, ex, hs, ey, q2⟩ => ?_
  · refine ⟨ρ, M, env, R1, E1, q1.bind fun y M2 ρ2 H2 w _ S R2 dy h => ?_⟩
    have dx2 := Den.step R1 S _ _ dx
    unfold revD at h
    split at h
    · rename_i ds i _
      obtain ⟨a, xs, rfl, hs, hd⟩ := den_tup.mp dx2
      split at h
      · rename_i ei
        subst ei
        exact ⟨a, xs, rfl, hs, den_int.mp dy, newT R2 h hd.reverse⟩
      · exact h.elim
    · exact h.elim
  · subst ex ey
    obtain rfl : v = Value.ref a := r1
    obtain ⟨t, rfl⟩ := r2
    have I4 : L2.Inv X pins σ H2 { s2 with heap := s2.heap.push { cls := .type "slice", data := .fields #[.none, .none, .int (-1) t] } } := I2.kept (t' := s2.toks) fun b ob q => Heap.get?_push_of_some _ q
    obtain ⟨its, r, ht, hz⟩ := I4.tuple hs
    have hlen : its.toArray.size = xs.length := by rw [List.size_toArray]; exact r.length.symm
    show wpAny (model X.prog X.w) X.A (subscriptTail e (.Slice none none (some k) p2) (.ref a) (.ref s2.heap.objs.size)) (EP X pins σ Q) X.xe { s2 with heap := s2.heap.push { cls := .type "slice", data := .fields #[.none, .none, .int (-1) t] } }
    refine tail_any (ops := [.ref a, .ref s2.heap.objs.size]) ht.typeIs PyProof.Rows.slot_tuple_getitem.lookup (tup_rev ht (Heap.IsSliceOf.new ..) ?_ (by rw [hlen]; exact hz)) (hs1 _ _)
    refine ⟨.ref _, _, I4.laid (t' := s2.toks) (o := .tup xs.reverse) (fun b ob q => Heap.get?_push_of_some _ q) (Nat.le_refl _) ?_, rfl, q2 _ (I4.hok.fresh (Nat.le_refl _))⟩
    exact ⟨by rw [List.length_reverse]; exact hz, _, r.reverse, IsTup.new _ _⟩
end
end Mi

end

section
/-! Mi, fourteenth part: tables of the text, items written, enumerate. -/
namespace Mi
open PySem PySem.Spec PyProof.Rows L2
section
variable {X : Cx} {W : WX}
/-! ### a table of the text: words to values -/
def KTab (K : PySem.W.Frag) (w : World) (p : Addr) (tbl : List (Str × D)) : Prop := ∀ q ∈ tbl, ∃ v, KDct K w p q.1 v ∧ Fix K q.2 v
def tabD (tbl : List (Str × D)) : Op1 := fun y M => match y with
  | .str z => match tbl.find? (fun q => decide (q.1 = z)) with
    | some q => .ok q.2 M
    | none => .err
  | _ => .err
theorem s_tab {x : Str} {p : Addr} {tbl : List (Str × D)} {b : Expr} {q pos : Pos} {mb : ME} (hm : X.mg x = some (.ref p)) (kt : KTab X.K X.w p tbl) (hb : SE X W b mb) (hg : Gl X x := by rfl) (hs : PlainIx b := by intro _ _; rfl) (hd : (x == ("__debug__" : Str)) = false := by decide) :
    SE X W (.Subscript (.Name x q) b pos) (m1 (tabD tbl) mb) := by
  refine pe_imp (pe_ix ix_kdict (pe_glob hg hm (show RelV (.ref p) (.ref p) from rfl) hd) hb hs) fun σ H Q h => ?_
  show tm X.K (DnD X.K) W mb σ H (fun y H2 => rIxD X.K X.w (.ref p) y H2 Q)
  refine tm_bind (f := fun y env M1 => tabD tbl y M1) h fun y M1 ρ1 H1 w env R1 E1 dy h => ?_
  unfold tabD at h
  split at h
  · rename_i z
    split at h
    · rename_i r e
      obtain ⟨v, k, f⟩ := kt r (List.mem_of_find?_eq_some e)
      have e2 : r.1 = z := by simpa using List.find?_some e
      subst e2
      exact ⟨p, r.1, v, rfl, den_str.mp dy, k, h ρ1 H1 v (Stp.refl (K := X.K) (M := M1)) R1 (f ρ1 H1)⟩
    · exact h.elim
  · exact h.elim

/-! ### items written -/
def putM {κ : Type} [DecidableEq κ] (kvs : List (κ × D)) (k : κ) (d : D) : List (κ × D) := if (kvs.any fun kv => decide (kv.1 = k)) = true then kvs.map (fun kv => if kv.1 = k then (kv.1, d) else kv) else kvs ++ [(k, d)]
theorem denP_any {κ : Type} [DecidableEq κ] {K : PySem.W.Frag} {ρ : Rho} {H : Hp} {ps : List (κ × D)} {qs : List (κ × V)} (h : DenP K ρ H ps qs) (k : κ) : (ps.any fun kv => decide (kv.1 = k)) = qs.any fun kv => decide (kv.1 = k) := by
  induction h with
  | nil => rfl
  | cons r _ ih => rw [List.any_cons, List.any_cons, ih, r.1]
theorem denP_sets {κ : Type} [DecidableEq κ] {K : PySem.W.Frag} {ρ : Rho} {H : Hp} {ps : List (κ × D)} {qs : List (κ × V)} {k : κ} {d : D} {v : V} (h : DenP K ρ H ps qs) (dv : Den K ρ H d v) :
    DenP K ρ H (ps.map fun kv => if kv.1 = k then (kv.1, d) else kv) (qs.map fun kv => if kv.1 = k then (kv.1, v) else kv) := by
  induction h with
  | nil => exact .nil
  | @cons p q ps qs r _ ih =>
    rw [List.map_cons, List.map_cons]
    refine .cons ?_ ih
    rw [← r.1]
    split
    · exact ⟨rfl, dv⟩
    · exact r
theorem denP_more {κ : Type} {K : PySem.W.Frag} {ρ : Rho} {H : Hp} {ps : List (κ × D)} {qs : List (κ × V)} {k : κ} {d : D} {v : V} (h : DenP K ρ H ps qs) (dv : Den K ρ H d v) : DenP K ρ H (ps ++ [(k, d)]) (qs ++ [(k, v)]) := by
  induction h with
  | nil => exact .cons ⟨rfl, dv⟩ .nil
  | cons r _ ih => exact .cons r ih
theorem denP_put {κ : Type} [DecidableEq κ] {K : PySem.W.Frag} {ρ : Rho} {H : Hp} {ps : List (κ × D)} {qs : List (κ × V)} {k : κ} {d : D} {v : V} (h : DenP K ρ H ps qs) (dv : Den K ρ H d v) : DenP K ρ H (putM ps k d) (putK qs k v) := by
  unfold putM putK
  rw [denP_any h k]
  split
  · exact denP_sets h dv
  · exact denP_more h dv
theorem dens_set {K : PySem.W.Frag} {ρ : Rho} {H : Hp} {d : D} {v : V} (dv : Den K ρ H d v) : ∀ {ds : List D} {xs : List V}, Dens K ρ H ds xs → ∀ j : Nat, Dens K ρ H (ds.set j d) (xs.set j v)
  | [], xs, h, j => by rw [dens_nil] at h; subst h; exact dens_nil.mpr rfl
  | e :: ds, xs, h, j => by
    obtain ⟨w, r, rfl, h1, h2⟩ := dens_cons.mp h
    cases j with
    | zero => exact dens_cons.mpr ⟨v, r, rfl, dv, h2⟩
    | succ j => exact dens_cons.mpr ⟨w, r.set j v, rfl, h1, dens_set dv h2 j⟩
def putD (o i d : D) (M : MH) : Option MH := match o with
  | .ref l => match M[l]? with
    | some (.lst ds) => match i with
      | .int k => match ixN ds.length k with
        | some j => some (M.set l (.lst (ds.set j d)))
        | none => none
      | _ => none
    | some (.dct kvs) => match keyOf i with
      | some k => if kvs.length < lim then some (M.set l (.dct (putM kvs k d))) else none
      | none => none
    | _ => none
  | _ => none
def cPut (mv mo mi : ME) : MS := fun env M => andS (mv env M) env fun d M1 => andS (mo env M1) env fun o M2 => andS (mi env M2) env fun i M3 => match putD o i d M3 with
  | some M4 => .nx env M4
  | none => .err
def rPut : TSet := fun o i v H Q => rSetL o i v H Q ∨ rSetD o i v H Q
theorem set_put (c : Cf X) : PSet X rPut := fun pins s σ H o i v ov iv u Q I ro ri rv h => by
  rcases h with h | h
  · exact set_list pins s σ H o i v ov iv u Q I ro ri rv h
  · exact set_dict (by have := c.hu; omega) pins s σ H o i v ov iv u Q I ro ri rv h
theorem o_put {ρ : Rho} {M M' : MH} {H : Hp} {o i d : D} {vo vi vd : V} {Q : Hp → Prop} (Rl : Rel X.K ρ M H) (d1 : Den X.K ρ H o vo) (d2 : Den X.K ρ H i vi) (d3 : Den X.K ρ H d vd) (e : putD o i d M = some M') (h : ∀ H', Stp ρ H ρ H' → Rel X.K ρ M' H' → Q H') : rPut vo vi vd H Q := by
  unfold putD at e
  split at e
  · rename_i l
    obtain ⟨p, u, rfl, hl, ho⟩ := den_ref.mp d1
    split at e
    · rename_i ds hm
      obtain ⟨b, xs, h1, h2, h3⟩ := Rl.obj l _ hm
      have hl2 := h1
      rw [hl] at h1
      cases h1
      have ep := ho b rfl
      subst ep
      split at e
      · rename_i k
        rw [den_int] at d2
        subst d2
        split at e
        · rename_i j ej
          cases e
          have S : Stp ρ H ρ (upd H b (.lst (xs.set j vd))) := Stp.write hl2
          refine .inl ⟨b, xs, k, j, rfl, rfl, h2, by rw [← h3.length]; exact ej, h _ S (Rl.write hl2 ⟨b, xs.set j vd, hl2, upd_same, ?_⟩)⟩
          exact Dens.step Rl S _ _ (dens_set d3 h3 j)
        · cases e
      · cases e
    · rename_i kvs hm
      obtain ⟨b, ks, h1, h2, h3⟩ := Rl.obj l _ hm
      have hl2 := h1
      rw [hl] at h1
      cases h1
      have ep := ho b rfl
      subst ep
      split at e
      · rename_i k hk
        split at e
        · rename_i hz
          cases e
          have S : Stp ρ H ρ (upd H b (.dK (putK ks k vd))) := Stp.write hl2
          have hlen : ks.length < sizeLine := by
            rw [← Paired.length h3]
            exact lim_lt hz
          rw [keyOf_v hk d2]
          refine .inr ⟨b, _, rfl, DPut.k h2 hlen, h _ S (Rl.write hl2 ⟨b, putK ks k vd, hl2, upd_same, ?_⟩)⟩
          exact DenP.step Rl S (denP_put h3 d3)
        · cases e
      · cases e
    · cases e
  · cases e
/-- as andS_tm, and how far the heap has come -/
theorem andS_stp {α β : Type} {K : PySem.W.Frag} {dn : Rho → Hp → α → β → Prop} {D : Ends} {σ : L2.St} {H : Hp} {ρ : Rho} {M : MH} {env : En} {m : En → MH → R α} {f : α → MH → RS} {Q : β → Hp → Prop} (Rl : Rel K ρ M H) (E : EnR K ρ H env σ)
    (h : OkS K ρ H W D (andS (m env M) env f))
    (k : ∀ a M1 ρ1 H1 v, Stp ρ H ρ1 H1 → Rel K ρ1 M1 H1 → EnR K ρ1 H1 env σ → dn ρ1 H1 a v → OkS K ρ1 H1 W D (f a M1) → Q v H1) : tm K dn W m σ H Q := by
  refine ⟨ρ, M, env, Rl, E, ?_⟩
  cases e : m env M with
  | err => rw [e] at h; exact h
  | exc c fs M1 =>
    rw [e] at h
    exact fun ρ1 H1 d cv cn S R1 x => h ρ1 H1 d σ cv cn S R1 x (E.step Rl S)
  | ok a M1 =>
    rw [e] at h
    have h' : OkS K ρ H W D (f a M1) := h
    exact fun ρ1 H1 v S R1 dv => k a M1 ρ1 H1 v S R1 (E.step Rl S) dv (h'.step S)
theorem c_put (c : Cf X) {o i e : Expr} {p2 pos : Pos} {mo mi mv : ME} (hv : SE X W e mv) (ho : SE X W o mo) (hi : SE X W i mi)
    (ha : ∀ v, assign (.Subscript o i p2) X.env v = (do
      let ov ← holding [v] (eval o X.env)
      let iv ← holding [v, ov] (eval i X.env)
      standAt p2
      holding [v, ov, iv] (setItem ov iv v)
      release [v, ov, iv] []) := by intro _; rfl)
    (hs : swapsWithSole [.Subscript o i p2] e pos.line X.env = pure false := by rfl) (hw : swappedStores [.Subscript o i p2] e X.env = pure none := by rfl)
    (h1 : (assignEach [.Subscript o i p2] X.env).map (·.2) = [assign (.Subscript o i p2) X.env] := by rfl) : SS X W (.Assign [.Subscript o i p2] e pos) (cPut mv mo mi) := by
  refine ps_imp (ps_asg hv (pg_sub ho hi (set_put c) ha) hs hw h1) fun D σ H q => ?_
  obtain ⟨ρ, M, env, Rl, E, q⟩ := q
  refine andS_stp Rl E q fun d M1 ρ1 H1 v S1 R1 E1 dv q1 => ?_
  refine andS_stp R1 E1 q1 fun o M2 ρ2 H2 w S2 R2 E2 dw q2 => ?_
  refine andS_stp R2 E2 q2 fun i M3 ρ3 H3 x S3 R3 E3 dx q3 => ?_
  split at q3
  · rename_i M4 e
    exact o_put R3 (Den.step R2 S3 _ _ dw) dx (Den.step R2 S3 _ _ (Den.step R1 S2 _ _ dv)) e fun H' S R' => q3 ρ3 H' σ S R' (E3.step R3 S)
  · exact q3.elim
end
end Mi

end

section
/-! Mi, fifteenth part: enumerate over a tuple, from any number. -/
namespace Mi
open PySem PySem.Spec PyProof.Rows L2
/-- the tuple at a, each item in a new pair with its number -/
def iteT (K : PySem.W.Frag) (a : Addr) (k0 : Int) : It :=
  ⟨fun i H => ∃ (xs : List V) (x : V), SqT K H a xs ∧ xs[i]? = some x, fun i H v H' => ∃ T x, v = .ref T ∧ H T = none ∧ H' = upd H T (.tup [.int (k0 + (i : Int)), x]) ∧ ∀ xs, SqT K H a xs → xs[i]? = some x, fun i H => ∃ xs : List V, SqT K H a xs ∧ xs.length = i⟩
theorem tup_inj {X : Cx} {pins : List (Addr × Obj)} {σ : L2.St} {H : Hp} {s : Shared} {a : Addr} {xs ys : List V} (I : L2.Inv X pins σ H s) (h : SqT X.K H a xs) (h' : SqT X.K H a ys) : xs = ys := by
  obtain ⟨its, r, ⟨o, e, _, n, d⟩, _⟩ := I.tuple h
  obtain ⟨its', r', ⟨o', e', _, n', d'⟩, _⟩ := I.tuple h'
  rw [e] at e'
  cases e'
  rw [d] at d'
  injection d' with d1 _
  have e2 : its = its' := by simpa using congrArg Array.toList d1
  subst e2
  exact Vals.inj r r'
theorem turn_iteT {P : Program} {w : World} {K : PySem.W.Frag} {elts : List Expr} {kk : Nat} {tpos : Pos} (a e it : Addr) (k0 : Int) (hae : a ≠ e) (hai : a ≠ it) :
    Turn P w K (.Tuple elts kk tpos) (iteT K a k0) [e, it] e (fun i h => (∃ old, IsEnum h e it (k0 + (i : Int)) old) ∧ h.IsTupleIter it a i ∧ e ≠ it) where
  mem := by simp
  obj := fun i h st b hb => by
    obtain ⟨⟨old, he⟩, ⟨o, ho, hc, hd⟩, _⟩ := st
    have e' : b = e ∨ b = it := by simpa using hb
    rcases e' with z | z
    · rw [z]; exact ⟨_, he, fun v q => nomatch q⟩
    · rw [z]; exact ⟨o, ho, fun v q => by rw [hd] at q; cases q⟩
  keep := fun i h h' st k => let ⟨⟨old, he⟩, hi, hne⟩ := st; ⟨⟨old, k e (by simp) _ he⟩, hi.at fun o q => k it (by simp) o q, hne⟩
  item := by
    intro X hP hw hK hc i pins s σ H E I hf st hg
    subst hP hw hK
    obtain ⟨⟨old, he⟩, hit, hne⟩ := st
    obtain ⟨xs, x, hq, hx⟩ := hg
    obtain ⟨its, rv, ht, hz⟩ := I.tuple hq
    obtain ⟨u, hu, ru⟩ := rv.get hx
    have hel : e < s.heap.objs.size := Heap.lt_size he
    have hil : it < s.heap.objs.size := by obtain ⟨_, q, _⟩ := hit; exact Heap.lt_size q
    have hlt : i < its.toArray.size := by
      have := (List.getElem?_eq_some_iff.mp hu).1
      simpa using this
    have hh : X.A.in1.handled = none := I.ok.hd hc
    have itp : s.heap.IsTuple a its.toArray := by
      obtain ⟨o, e1, e2, e3⟩ := ht
      exact ⟨o, e1, e2, e3⟩
    refine wpAny_pyNext_enum_itemC (Draws.tuple (A := X.A.in1) hh it a hai its.toArray) he ⟨hit, itp⟩ hlt hne (by simp [hne, Ne.symm hae]) fun y h' tk hP ho hs' hT hsz hk => ?_
    have ey : y = u := by
      have : its.toArray[i]? = some y := hP
      rw [List.getElem?_toArray, hu] at this
      exact (Option.some.inj this).symm
    subst ey
    refine ⟨_, rfl, wpAny_letOwnedTupleGo_enum (s := { s with heap := h', toks := tk + 1 }) ho fun h'' he' sb => ?_⟩
    have hT2 : h''.get? s.heap.objs.size = some { cls := .type "tuple", data := .seq #[.int (k0 + (i : Int)) tk, y] } := (sb.2 _ (Nat.ne_of_gt hel)).trans hT
    have new : ObjOk X.prog X.w (upd H s.heap.objs.size (.tup [.int (k0 + (i : Int)), x])) h'' s.heap.objs.size (.tup [.int (k0 + (i : Int)), x]) :=
      ⟨by show 2 ≤ sizeLine; decide, [.int (k0 + (i : Int)) tk, y], .cons ⟨_, rfl⟩ (.cons ru .nil), ⟨_, hT2, rfl, _, rfl⟩⟩
    have I1 : L2.Inv X pins σ (upd H s.heap.objs.size (.tup [.int (k0 + (i : Int)), x])) { s with heap := h'', toks := tk + 1 } :=
      I.turnedNew (ch := [e, it]) (fun b ob hb q => (sb.2 b (fun z => hb (by simp [z]))).trans (hk b ob (fun z => hb (by simp [z])) (fun z => hb (by simp [z])) q)) hf (Nat.le_refl _) new
    refine ⟨.ref s.heap.objs.size, _, I1, rfl, ⟨_, x, rfl, I.hok.fresh (Nat.le_refl _), rfl, fun ys hy => by rw [tup_inj I hy hq]; exact hx⟩, ⟨⟨y, ?_⟩, hs'.1.at fun o q => (sb.2 it (Ne.symm hne)).trans q, hne⟩, fun b hb => ?_⟩
    · have e1 : k0 + ((i + 1 : Nat) : Int) = k0 + (i : Int) + 1 := by omega
      rw [e1]; exact he'
    · have hb' : b < s.heap.objs.size := by
        have e' : b = e ∨ b = it := by simpa using hb
        rcases e' with z | z
        · rw [z]; exact hel
        · rw [z]; exact hil
      rw [upd_ne (Nat.ne_of_lt hb')]
      exact (hf b hb).1
  done := by
    intro X hP hw hK hc i pins s σ H E I hf st hg
    subst hP hw hK
    obtain ⟨⟨old, he⟩, hit, hne⟩ := st
    obtain ⟨xs, hq, hx⟩ := hg
    obtain ⟨its, rv, ht, hz⟩ := I.tuple hq
    obtain ⟨f0, f1, f2, f3, f4, f5⟩ := hf it (by simp)
    have hl := rv.length
    have hn : its.toArray.size = i := by rw [List.size_toArray, ← hl]; exact hx
    have hh : X.A.in1.handled = none := I.ok.hd hc
    have itp : s.heap.IsTuple a its.toArray := by
      obtain ⟨o, e1, e2, e3⟩ := ht
      exact ⟨o, e1, e2, e3⟩
    refine wpAny_pyNext_enum_endD (Draws.tuple (A := X.A.in1) hh it a hai its.toArray) he ⟨by rw [hn]; exact hit, itp⟩ fun h' eb => ⟨rfl, ?_⟩
    exact I.turned (t' := s.toks) (fun b o hb q => eb b o hb q) f0 f1 f3 f4 f5
  self := fun A i s Q E st h => let ⟨⟨_, he⟩, _⟩ := st; wpAny_pyIter_enum he h
/-- pairs of numbers and items -/
def enumL : Int → List D → List D
  | _, [] => []
  | k, d :: ds => .tup [.int k, d] :: enumL (k + 1) ds
theorem enumL_len : ∀ {k : Int} {ds : List D}, (enumL k ds).length = ds.length
  | _, [] => rfl
  | k, d :: ds => congrArg (· + 1) (enumL_len (k := k + 1) (ds := ds))
theorem enumL_get : ∀ {ds : List D} {k : Int} {i : Nat} {d : D}, (enumL k ds)[i]? = some d → ∃ e, ds[i]? = some e ∧ d = .tup [.int (k + (i : Int)), e]
  | [], k, i, d, h => by cases h
  | e :: ds, k, 0, d, h => by
    cases h
    exact ⟨e, rfl, by simp⟩
  | e :: ds, k, i + 1, d, h => by
    obtain ⟨f, h1, h2⟩ := enumL_get (ds := ds) (k := k + 1) (i := i) h
    refine ⟨f, h1, ?_⟩
    rw [h2]
    have e1 : k + 1 + (i : Int) = k + ((i + 1 : Nat) : Int) := by omega
    rw [e1]
theorem wk_enum {K : PySem.W.Frag} {ρ : Rho} {M : MH} {H : Hp} {a : Addr} {ds : List D} {xs : List V} {k0 : Int} (Rl : Rel K ρ M H) (hs : SqT K H a xs) (hd : Dens K ρ H ds xs) : Wk K ρ H (iteT K a k0) (enumL k0 ds) where
  goes := fun i ρ' M' H' hi R' S => by
    rw [enumL_len, hd.length] at hi
    exact ⟨xs, xs[i], SqT.tr S hs, by simp [hi]⟩
  stops := fun ρ' M' H' R' S => ⟨xs, SqT.tr S hs, by rw [enumL_len, hd.length]⟩
  yields := fun i ρ' M' H' x H'' d hd' R' S y => by
    obtain ⟨e, h1, h2⟩ := enumL_get hd'
    subst h2
    obtain ⟨v, h3, h4⟩ := hd.get h1
    obtain ⟨T, z, rfl, hn, rfl, hz⟩ := y
    have e2 := hz xs (SqT.tr S hs)
    rw [h3] at e2
    cases e2
    have h5 := Den.tr S _ _ h4
    exact ⟨R'.alloc hn, Stp.alloc hn, den_newT R' hn (dens_cons.mpr ⟨_, _, rfl, den_int.mpr rfl, dens_cons.mpr ⟨_, _, rfl, h5, dens_nil.mpr rfl⟩⟩)⟩
def enumD (k0 : Int) : List D → MH → R (List D) := fun xs M => match xs with
  | [.tup ds] => .ok (enumL k0 ds) M
  | _ => .err
/-! what enumerate(v) makes, v told by its iterator -/
abbrev enumO (it : Addr) : Obj := { cls := .type "enumerate", data := .fields #[.none, .bool false, .ref it, rawInt 0, .none, .none] }
set_option maxHeartbeats 1000000 in
theorem meets_enum1 {v : Value} {o : Obj} {Hy : Heap → Prop} (B : Begins v o Hy) :
    Meets (Builtin.«enumerate.__new__» ⟨[.type "enumerate", v], []⟩) (fun _ R s => Hy s.heap ∧ R (.ok (.ret (.ref (s.heap.push o).objs.size))) { s with heap := (s.heap.push o).push (enumO s.heap.objs.size) }) :=
  .of_wp fun prog w A R ⟨hp, g, d, tk, os⟩ ⟨h1, h2⟩ => by
    have sb := sub_enumerate
    have go : ∀ {A2 : Around} {E2 : Value → Shared → Prop} {Q2 : Value → Shared → Prop}, Q2 (.ref hp.objs.size) ⟨hp.push o, g, d, tk, os⟩ → wpAny (model prog w) A2 (pyIter v) Q2 E2 ⟨hp, g, d, tk, os⟩ := fun q => B.iter prog w _ _ ⟨hp, g, d, tk, os⟩ _ h1 q
    wp_walk using go
    refine wpAny_stack_any fun stk => wpAny_pure ?_
    split
    · rename_i cc _ _ _ _ _
      cases (cc == Value.type "enumerate") <;> (wp_walk using go; exact ⟨_, rfl, h2⟩)
    · wp_walk using go; exact ⟨_, rfl, h2⟩
theorem enum_new {prog : Program} {w : World} {A : Around} {E : Value → Shared → Prop} {s : Shared} {v : Value} {o : Obj} {Hy : Heap → Prop} {Q : Value → Shared → Prop} (B : Begins v o Hy) (h1 : Hy s.heap)
    (h : ∀ h2, IsEnum h2 (s.heap.objs.size + 1) s.heap.objs.size 0 .none → h2.get? s.heap.objs.size = some o → (∀ b u, s.heap.get? b = some u → h2.get? b = some u) → Q (.ref (s.heap.objs.size + 1)) { s with heap := h2 }) : wpAny (model prog w) A (call (.type "enumerate") [v]) Q E s := by
  refine callType_new F.called_enumerate (by decide) (F.typeCall_enumerate_1 _) (F.newCall_enumerate_1 _) (fun ob => F.args_object_init_2 ob _) F.entry_enumerate_new (meets_enum1 B) ⟨h1, ?_⟩
  have z : (s.heap.push o).objs.size = s.heap.objs.size + 1 := Heap.size_push ..
  show _ ∧ _
  rw [z]
  have he : IsEnum ((s.heap.push o).push (enumO s.heap.objs.size)) (s.heap.objs.size + 1) s.heap.objs.size 0 .none := by
    have := Heap.get?_push_size (s.heap.push o) (o := enumO s.heap.objs.size) rfl
    rw [z] at this
    exact this
  exact ⟨⟨_, he, rfl⟩, h _ he (Heap.get?_push_of_some _ (Heap.get?_push_size _ B.free)) fun b u x => Heap.get?_push_of_some _ (Heap.get?_push_of_some _ x)⟩
section
variable {X : Cx} {W : WX}
theorem call_enum {pins : List (Addr × Obj)} {σ : L2.St} {H : Hp} {s : Shared} {tg : List Expr} {kk : Nat} {tpos : Pos} {a : Addr} {xs : List V} {k : Int} {Rr : It → Hp → Prop} (I : L2.Inv X pins σ H s) (hq : SqT X.K H a xs) (q : Rr (iteT X.K a k) H) (h' : Heap)
    (he : IsEnum h' (s.heap.objs.size + 1) s.heap.objs.size k .none) (hit : h'.get? s.heap.objs.size = some { cls := .type "tuple_iterator", data := .fields #[.ref a, .int 0 0] }) (hk : ∀ b o, s.heap.get? b = some o → h'.get? b = some o) :
    PIE X pins σ (.Tuple tg kk tpos) Rr (.ref (s.heap.objs.size + 1)) { s with heap := h' } := by
  have I2 : L2.Inv X pins σ H { s with heap := h' } := I.kept (t' := s.toks) hk
  obtain ⟨its, rv, ht, hz⟩ := I.tuple hq
  have hal : a < s.heap.objs.size := by obtain ⟨_, e, _⟩ := ht; exact Heap.lt_size e
  refine ⟨s.heap.objs.size + 1, [s.heap.objs.size + 1, s.heap.objs.size], _, _, H, rfl, I2, turn_iteT a (s.heap.objs.size + 1) s.heap.objs.size k (Nat.ne_of_lt (Nat.lt_succ_of_lt hal)) (Nat.ne_of_lt hal), ⟨⟨.none, ?_⟩, ⟨_, hit, rfl, rfl⟩, Nat.succ_ne_self _⟩, fun b hb => ?_, q⟩
  · show IsEnum h' _ _ (k + ((0 : Nat) : Int)) _
    have : k + ((0 : Nat) : Int) = k := by omega
    rw [this]
    exact he
  · have e' : b = s.heap.objs.size + 1 ∨ b = s.heap.objs.size := by simpa using hb
    have hle : s.heap.objs.size ≤ b := by
      rcases e' with z | z
      · rw [z]; exact Nat.le_add_right _ _
      · rw [z]; exact Nat.le_refl _
    exact I.fpOk hle (I.hok.fresh hle)
theorem tup_is {pins : List (Addr × Obj)} {σ : L2.St} {H : Hp} {s : Shared} {a : Addr} {xs : List V} (I : L2.Inv X pins σ H s) (h : SqT X.K H a xs) : ∃ its : Array Value, s.heap.IsTuple a its := by
  obtain ⟨its, rv, ⟨o, e1, e2, e3⟩, hz⟩ := I.tuple h
  exact ⟨its.toArray, o, e1, e2, e3⟩
theorem enum_o {k : Int} {ds : List D} {vs : List V} {ρ : Rho} {M : MH} {H : Hp} {Q : It → Hp → Prop} {Wf : Value → Option Addr → Hp → Prop} (R1 : Rel X.K ρ M H) (dv : Dens X.K ρ H ds vs) (q : Ok X.K ρ H (DnI X.K) Wf Q (enumD k ds M)) : ∃ a xs, vs = [.ref a] ∧ SqT X.K H a xs ∧ Q (iteT X.K a k) H := by
  unfold enumD at q
  split at q
  · obtain ⟨v, rfl, d⟩ := dens_one dv
    obtain ⟨a, xs, rfl, hs, hd⟩ := den_tup.mp d
    exact ⟨a, xs, rfl, hs, q ρ H _ (Stp.refl (K := X.K) (M := M)) R1 (wk_enum R1 hs hd)⟩
  · exact q.elim
/-- over enumerate(t) -/
theorem i_enum {e : Expr} {ma : MA} {p pos tpos : Pos} {elts : List Expr} {kk : Nat} (hm : X.mg "enumerate" = none) (ha : SA X W [e] ma) (hg : Gl X "enumerate" := by rfl) (hs : starEach [e] X.env = (false, eval e X.env) :: starEach [] X.env := by rfl) :
    SI X W (.Tuple elts kk tpos) (.Call (.Name "enumerate" p) [e] [] pos) (mI (enumD 0) ma) := by
  refine ⟨fun pins s σ H Rr I h => ?_⟩
  refine Call_ (ld_blt I hg hm boot_enumerate (PyProof.Rows.callWith_type1 (thn (ha.run pos pins s σ H (fun vs H1 => ∃ a xs, vs = [.ref a] ∧ SqT X.K H1 a xs ∧ Rr (iteT X.K a 0) H1) I ?_) fun us s1 ⟨vs, H1, I1, r1, a, xs, ex, hq, q⟩ => ?_) hs rfl))
  · obtain ⟨ρ, M, env, Rl, E, h⟩ := h
    exact ⟨ρ, M, env, Rl, E, h.bind fun ds M1 ρ1 H1 vs _ S R1 dv q1 => enum_o R1 dv q1⟩
  subst ex
  rw [Vals.ref1 r1]
  obtain ⟨its, ht⟩ := tup_is I1 hq
  exact enum_new (begins_tuple a its) ht fun h' he hit hk => wpAny_pyIter_enum he (call_enum I1 hq q h' he hit hk)
/-- over enumerate(t, start=k) -/
theorem i_enumK {e : Expr} {k : Int} {j : Tok} {ma : MA} {p pos tpos kp kp2 : Pos} {elts : List Expr} {kk : Nat} (hm : X.mg "enumerate" = none) (ha : SA X W [e] ma) (hk0 : -(2 ^ 63) ≤ k) (hk1 : k < 2 ^ 63) (hg : Gl X "enumerate" := by rfl)
    (hs : starEach [e] X.env = (false, eval e X.env) :: starEach [] X.env := by rfl) (hall : (backToKw pos (keywordEach [⟨some (Str.ofString "start"), .Constant (.int k) j kp, kp2⟩] X.env)).all (·.1.isSome) = true := by rfl)
    (hks : (backToKw pos (keywordEach [⟨some (Str.ofString "start"), .Constant (.int k) j kp, kp2⟩] X.env)).filterMap (·.1) = [Str.ofString "start"] := by rfl)
    (hpl : ((backTo pos (starEach [e] X.env)).any (·.1) || (backToKw pos (keywordEach [⟨some (Str.ofString "start"), .Constant (.int k) j kp, kp2⟩] X.env)).any (·.1.isNone)) = false := by rfl) :
    SI X W (.Tuple elts kk tpos) (.Call (.Name "enumerate" p) [e] [⟨some (Str.ofString "start"), .Constant (.int k) j kp, kp2⟩] pos) (mI (enumD k) ma) := by
  refine ⟨fun pins s σ H Rr I h => ?_⟩
  refine wpAny_Call_Name_kw (ld_blt I hg hm boot_enumerate ?_)
  refine PySem.W.callWith_of (P := fun _ => True) hpl (fun h _ => ⟨.machine, .inr (.inl rfl), .now⟩) (evalArgs_kw2 hall (thn (ha.run pos pins s σ H (fun vs H1 => ∃ a xs, vs = [.ref a] ∧ SqT X.K H1 a xs ∧ Rr (iteT X.K a k) H1) I ?_) fun us s1 ⟨vs, H1, I1, r1, a, xs, ex, hq, q⟩ => ?_) hs)
  · obtain ⟨ρ, M, env, Rl, E, h⟩ := h
    exact ⟨ρ, M, env, Rl, E, h.bind fun ds M1 ρ1 H1 vs _ S R1 dv q1 => enum_o R1 dv q1⟩
  subst ex
  rw [Vals.ref1 r1]
  refine thn ((pk_cons (pe_int (i := k) (j := j) (pos := kp)) pk_nil).run pos pins s1 σ H1 (fun ws H2 => ws = [V.int k] ∧ H2 = H1) I1 ⟨rfl, rfl⟩) fun ws s2 ⟨zs, H2, I2, rz, ez, eh⟩ => ⟨True.intro, ?_⟩
  subst ez eh
  rw [hks]
  cases rz with
  | cons r rr =>
    cases rr
    obtain ⟨t, rfl⟩ := r
    obtain ⟨its, ht⟩ := tup_is I2 hq
    exact enum_begins_start (begins_tuple a its) ht hk0 hk1 fun h' he hit hsz hk => wpAny_pyIter_enum he (call_enum I2 hq q h' he hit hk)
end
end Mi

end

section
/-! Mi, sixteenth part: the end: a law's def as a function on data, behind the head. -/
namespace Mi
open PySem PySem.Spec PyProof.Rows L2
section
variable {P : Program} {w : World} {K : PySem.W.Frag} {mg mb : Str → Option Value} {k : Nat} {fa a : Addr} {fd : FuncData} {x : Str} {m : MF} {s1 : Shared} {vs : List Value} {ns : List Int}
/-- what the head wants of the law's call -/
abbrev EndsSo (s1 : Shared) : Result → Shared → Prop := fun r s2 => r = .ok (.ret (.bool true)) ∧ OldK s1.heap s2.heap ∧ s2.os = s1.os ∧ AllBare s2.gens
theorem rel0 {H : Hp} : Rel K ⟨[], []⟩ [] H := ⟨rfl, fun _ h => (by cases h), fun _ _ _ h => (by cases h), fun _ _ h => (by cases h)⟩
/-- from a heap in which at most the script is known -/
theorem end_core (KX : K.In s1.heap) (gl : s1.heap.Ns mainGlobals mg) (bl : s1.heap.Ns builtinsNs mb) (bb : ∀ z : Str, z ≠ "__name__" → mb z = bootBuiltins z) (nl : s1.heap.NoLimit) (gn : s1.gens = #[])
    (sc : s1.heap.get? a = some { cls := .type "list", data := .seq vs.toArray }) (rm : Room k callerA)
    (F : ∀ base : Heap, K.In base → base.Ns mainGlobals mg → FnG P w K mg base k fa fd [x] (spM K 1 m)) (bt : ∀ (s : Shared) (u : Value), BindsTo s fd ⟨[u], []⟩ [(x, u)])
    {M' : MH} (hm : m [.lst (ns.map D.int)] [] = .ok (.bl true) M') (H : Hp) (only : ∀ b, H b = none ∨ b = a ∧ K.lookup a = none ∧ ∃ o xs, H b = some (.frz o (.lst xs))) (hok : HOk P w H s1.heap) (dn : Den K ⟨[], []⟩ H (.lst (ns.map D.int)) (.ref a)) :
    codeAny (model P w) callerA (.call (.ref fa) ⟨[.ref a], []⟩) (EndsSo s1) s1 := by
  have old : ∀ {b : Addr} {o : Obj}, s1.heap.get? b = some o → H b = none → (hidT s1.heap H).get? b = some o := fun e n => hidT_get e n
  have notA : ∀ {b : Addr} {o : Obj} {es : Array DictEntry} {ep : Nat}, s1.heap.get? b = some o → o.data = .dict es ep → H b = none := fun {b o es ep} e dd => by
    rcases only b with z | ⟨rfl, _, _⟩
    · exact z
    · rw [sc] at e
      cases e
      exact nomatch (show Data.seq vs.toArray _ = Data.dict es ep from dd)
  have nsOld : ∀ {b : Addr} {f : Str → Option Value}, s1.heap.Ns b f → (hidT s1.heap H).Ns b f := fun ⟨o, es, ep, e, dd, r⟩ => ⟨o, es, ep, old e (notA e dd), dd, r⟩
  have kb : K.In (hidT s1.heap H) := fun b o e => old (KX b o e) (by
    rcases only b with z | ⟨rfl, z, _⟩
    · exact z
    · rw [z] at e; cases e)
  have md : Mod K mg (hidT s1.heap H) := ⟨kb, nsOld gl, ⟨mb, nsOld bl, bb⟩, nl.elim fun mc h => ⟨mc, nsOld h.1, h.2⟩⟩
  have e0 : Env0 P w K mg (hidT s1.heap H) callerA [] s1 H := ⟨rfl, md, fun b o e => of_hidT e, Nat.le_of_eq (hidT_size _ _), trivial, fun b hb => absurd (show b ∈ ([] : List Addr) from hb) (by simp), hok, .of_eq gn⟩
  have go := (F _ kb (nsOld gl)).go callerA [] s1 H ⟨[.ref a], []⟩ [.ref a] [.ref a] (fun v _ => v = .bl true) (fun _ _ _ => False) rm rfl e0 (bt s1 (.ref a)) (.cons rfl .nil)
    ⟨rfl, ⟨[], []⟩, [], [.lst (ns.map D.int)], rel0, dens_cons.mpr ⟨_, _, rfl, dn, dens_nil.mpr rfl⟩, by
      rw [hm]
      exact fun ρ' H' v _ _ dv => den_bl.mp dv⟩
  refine codeAny_mono go fun r s2 h => ?_
  cases r with
  | error e =>
    obtain ⟨_, _, _, _, _, _, _, _, _, _, _, _, z⟩ := (show L2.CX P w [] H s1 (fun _ _ _ => False) e s2 from h)
    exact z.elim
  | ok fl =>
    cases fl with
    | ret u =>
      obtain ⟨v, H', os, bare, un, hok', r', q⟩ := h
      cases (show v = .bl true from q)
      cases (show u = Value.bool true from r')
      refine ⟨rfl, OldK.of_keep fun b o e => ?_, os, bare⟩
      rcases only b with z | ⟨_, _, ob, xs, z⟩
      · exact un.keep b o e z (fun y => absurd (show b ∈ ([] : List Addr) from y) (by simp)) (by simp)
      · have z2 := un.frzs b ob _ z
        have e1 := (hok b _ z).1
        have e2 := (hok' b _ z2).1
        rw [e] at e1
        cases e1
        exact e2
    | next => exact h.elim
    | brk => exact h.elim
    | cont => exact h.elim
theorem end_call (KX : K.In s1.heap) (gl : s1.heap.Ns mainGlobals mg) (bl : s1.heap.Ns builtinsNs mb) (bb : ∀ z : Str, z ≠ "__name__" → mb z = bootBuiltins z) (nl : s1.heap.NoLimit) (gn : s1.gens = #[])
    (sc : s1.heap.get? a = some { cls := .type "list", data := .seq vs.toArray }) (hi : IntsAre vs ns) (hl : ns.length ≤ sizeLine) (rm : Room k callerA)
    (F : ∀ base : Heap, K.In base → base.Ns mainGlobals mg → FnG P w K mg base k fa fd [x] (spM K 1 m)) (bt : ∀ (s : Shared) (u : Value), BindsTo s fd ⟨[u], []⟩ [(x, u)])
    {M' : MH} (hm : m [.lst (ns.map D.int)] [] = .ok (.bl true) M') : codeAny (model P w) callerA (.call (.ref fa) ⟨[.ref a], []⟩) (EndsSo s1) s1 := by
  have rv := vals_ints hi
  cases hk : K.lookup a with
  | some o =>
    have e := KX a o hk
    rw [sc] at e
    cases e
    refine end_core KX gl bl bb nl gn sc rm F bt hm (fun _ => none) (fun _ => .inl rfl) (fun b u z => by cases (show (none : Option HO) = some u from z)) ?_
    exact den_lst.mpr ⟨a, ns.map V.int, rfl, .inr (.inr ⟨_, vs.toArray, _, hk, rfl, rfl, rfl, by rw [List.size_toArray, hi.length]; exact hl, by simpa using rv⟩), dens_ints⟩
  | none =>
    have hA : ∀ {b : Addr}, b = a → (if b = a then some (HO.frz { cls := .type "list", data := .seq vs.toArray } (.lst (ns.map V.int))) else none) = some (HO.frz { cls := .type "list", data := .seq vs.toArray } (.lst (ns.map V.int))) := fun h => if_pos h
    refine end_core KX gl bl bb nl gn sc rm F bt hm (fun b => if b = a then some (.frz { cls := .type "list", data := .seq vs.toArray } (.lst (ns.map V.int))) else none) (fun b => ?_) (fun b u z => ?_) ?_
    · by_cases hb : b = a
      · exact .inr ⟨hb, hk, _, _, hA hb⟩
      · exact .inl (if_neg hb)
    · by_cases hb : b = a
      · cases (hA hb).symm.trans z
        subst hb
        exact ⟨sc, by rw [List.length_map]; exact hl, vs, _, rv, sc⟩
      · cases (if_neg hb).symm.trans z
    · refine den_lst.mpr ⟨a, ns.map V.int, rfl, .inl ⟨.inr ⟨_, hA rfl⟩, by simp, by simp⟩, dens_ints⟩
end
/-- THE END of a proof: the law's def is m, and m tells True of every script -/
theorem walk_m {l : PySem.W.OpenLaw} {n k : Nat} {q : Program} {loose : List Str} {XP : (Str → Option Value) → Heap → Prop} {YP : World → Heap → Prop} {d : DefRec} {K : Params → PySem.W.Frag} {x : Str} {m : MF}
    (hn : l.most = some n) (hn2 : n ≤ sizeLine) (hdf : d.params.defaults = []) (rm : Room k callerA) (hY : ∀ (w : World) (h : Heap), YP w h → (K w.params).In h)
    (F : ∀ (w : World) (mg : Str → Option Value) (fa : Addr) (h : Heap), (K w.params).In h → h.Ns mainGlobals mg → mg d.name = some (.ref fa) →
      ∃ fd : FuncData, (∀ (s : Shared) (u : Value), BindsTo s fd ⟨[u], []⟩ [(x, u)]) ∧ ∀ base : Heap, (K w.params).In base → base.Ns mainGlobals mg → FnG l.prog w (K w.params) mg base k fa fd [x] (spM (K w.params) 1 m))
    (hm : ∀ ns : List Int, ns.length ≤ n → (∀ z ∈ ns, Builtin.Int.intBits z ≤ 1048576) → ∃ M', m [.lst (ns.map D.int)] [] = .ok (.bl true) M') : PySem.W.WalkO q loose XP YP l.row.toRowW d [] (fun f vs => PySem.call f vs) := by
  refine Att.attach_callB hn hdf fun w s0 s1 mg mb fa o pm cd doc a vs ns G Y ho hd hcd hmg hobj hints hlen hbits hg => ?_
  obtain ⟨fd, hb, hF⟩ := F w mg fa _ (hY w _ Y) G.T.g hmg
  obtain ⟨M', e⟩ := hm ns hlen hbits
  exact end_call (hY w _ Y) G.T.g G.T.b G.T.builtins G.T.nolimit hg hobj hints (Nat.le_trans hlen hn2) rm hF hb e
end Mi

end

section
/-! Mi, seventeenth part: how a printed derivation is put together. -/
namespace Mi
open PySem PySem.Spec PyProof.Rows L2
abbrev WE (E : XK) : WX := fun c d _ H => E c d H
theorem fm_mk {P : Program} {w : World} {K : PySem.W.Frag} {mg : Str → Option Value} {base : Heap} {k : Nat} {x : Str} {st : Stmt} {dvs : List V} {kws : List (Str × V)} {ps : List Str} {b : MS} {n : Nat} (N : List Str) (a : At K mg x st dvs kws) (S : FnScope N ps (defScope st)) (hn : N.length = n)
    (body : ∀ (f : Addr) (cdv : Value) (A : Around) (outer : List Env) (s : Shared) (H : Hp) (E : XK), Cg (cxOf (L2.CX P w) P w K mg base N x (defScope st) f cdv A outer s H E) (WE E) k →
      PassesOwn (model P w) (cxOf (L2.CX P w) P w K mg base N x (defScope st) f cdv A outer s H E).A (cxOf (L2.CX P w) P w K mg base N x (defScope st) f cdv A outer s H E).env (cxOf (L2.CX P w) P w K mg base N x (defScope st) f cdv A outer s H E).xe →
      SB (cxOf (L2.CX P w) P w K mg base N x (defScope st) f cdv A outer s H E) (WE E) (defBody st) b) : Fm P w K mg base (k + 1) x st dvs kws ps (mFn n b) := by
  obtain ⟨f, fd, hm, F⟩ := a
  refine ⟨f, fd, hm, F, fng_of F S (fun vs H Q E h => h.1) fun cdv A outer s H vs Q E rm gd h => ?_⟩
  obtain ⟨hl, ρ, M, ds, Rl, dd, ok⟩ := h
  have hb := body f cdv A outer s H E ⟨rm, gd, takes_of rfl rfl rfl rfl⟩ (passes_of rfl)
  refine ⟨_, hb, ρ, M, ds.map some ++ List.replicate (n - ds.length) none, Rl, by rw [← hn]; exact en_start dd, ?_⟩
  unfold mFn at ok
  cases e : b (ds.map some ++ List.replicate (n - ds.length) none) M with
  | nx env M1 =>
    rw [e] at ok
    exact fun ρ1 H1 σ1 S1 R1 E1 => ok ρ1 H1 .non S1 R1 (den_non.mpr rfl)
  | ret d M1 => rw [e] at ok; exact ok
  | bk env M1 => rw [e] at ok; exact ok.elim
  | ct env M1 => rw [e] at ok; exact ok.elim
  | exc c fs env M1 =>
    rw [e] at ok
    exact fun ρ1 H1 d σ1 cv cn S1 R1 x1 _ => ok ρ1 H1 d cv cn S1 R1 x1
  | err => rw [e] at ok; exact ok.elim
/-- the same, but not to be looked into by reckoning -/
noncomputable def sealed {α : Type} (a : α) : α := Classical.choose (⟨a, rfl⟩ : ∃ b : α, b = a)
theorem sealed_eq {α : Type} (a : α) : sealed a = a := Classical.choose_spec (⟨a, rfl⟩ : ∃ b : α, b = a)
theorem fm_seal {P : Program} {w : World} {K : PySem.W.Frag} {mg : Str → Option Value} {base : Heap} {k : Nat} {x : Str} {st : Stmt} {dvs : List V} {kws : List (Str × V)} {ps : List Str} {m m' : MF} (e : m = m') (F : Fm P w K mg base k x st dvs kws ps m') : Fm P w K mg base k x st dvs kws ps m := by
  rw [e]
  exact F
theorem fixS_nil {K : PySem.W.Frag} : FixS K [] [] := fun _ _ => dens_nil.mpr rfl
theorem fixS_cons {K : PySem.W.Frag} {d : D} {v : V} {ds : List D} {vs : List V} (h : Fix K d v) (r : FixS K ds vs) : FixS K (d :: ds) (v :: vs) := fun ρ H => dens_cons.mpr ⟨v, vs, rfl, h ρ H, r ρ H⟩
def bitsD : Op1 := fun x M => match x with
  | .int i => .ok (.int (Builtin.Int.intBits i)) M
  | _ => .err
theorem s_bits {X : Cx} {W : WX} {o : Expr} {mo : ME} {apos pos : Pos} (ho : SE X W o mo) (hb : attributeBase o "bit_length" X.env (eval o X.env) = eval o X.env := by rfl) (hl : (apos.endLine == pos.line) = true := by rfl) :
    SE X W (.Call (.Attribute o "bit_length" apos) [] [] pos) (m1 bitsD mo) := pe_imp (pe_bits ho hb hl) fun σ H Q h => by
  refine tm_bind (f := fun d env M1 => bitsD d M1) h fun d M1 ρ1 H1 v env R1 E1 dv q => ?_
  unfold bitsD at q
  split at q
  · exact ⟨_, den_int.mp dv, q ρ1 H1 _ (Stp.refl (K := X.K) (M := M1)) R1 (den_int.mpr rfl)⟩
  · exact q.elim
end Mi

end

section
/-! Mi, eighteenth part: loops and comprehensions as functions, by an invariant; sizes. -/
namespace Mi
open PySem PySem.Spec L2
theorem forGo_inv {g : D → En → Option En} {b : MS} (I : Nat → En → MH → Prop) : ∀ (items : List D) (n : Nat) (env : En) (M : MH), I n env M →
    (∀ (i : Nat) (d : D) (e : En) (M1 : MH), items[i]? = some d → I (n + i) e M1 → ∃ e1 e2 M2, g d e = some e1 ∧ (b e1 M1 = .nx e2 M2 ∨ b e1 M1 = .ct e2 M2) ∧ I (n + i + 1) e2 M2) → ∃ e2 M2, forGo g b items env M = .nx e2 M2 ∧ I (n + items.length) e2 M2
  | [], n, env, M, h, _ => ⟨env, M, rfl, h⟩
  | d :: ds, n, env, M, h, s => by
    obtain ⟨e1, e2, M2, h1, h2, h3⟩ := s 0 d env M rfl h
    obtain ⟨e3, M3, h4, h5⟩ := forGo_inv I ds (n + 1) e2 M2 (by simpa using h3) fun i x e M1 hx hi => by
      have := s (i + 1) x e M1 (by simpa using hx) (by rw [show n + (i + 1) = n + 1 + i by omega]; exact hi)
      rw [show n + 1 + i + 1 = n + (i + 1) + 1 by omega]
      exact this
    refine ⟨e3, M3, ?_, by rw [List.length_cons, show n + (ds.length + 1) = n + 1 + ds.length by omega]; exact h5⟩
    unfold forGo
    rw [h1]
    simp only
    rcases h2 with h2 | h2 <;> (rw [h2]; exact h4)
theorem lcGo_all {f : D → MH → R (Option D)} {h : D → D} {M : MH} : ∀ {items : List D}, (∀ x ∈ items, f x M = .ok (some (h x)) M) → lcGo f items M = .ok (items.map h) M
  | [], _ => rfl
  | x :: xs, q => by
    unfold lcGo
    rw [q x (List.mem_cons_self ..)]
    simp only [R.bind_ok]
    rw [lcGo_all fun y hy => q y (List.mem_cons_of_mem _ hy)]
    rfl
theorem lg_of {a k : Nat} (h : a < 2 ^ k) (hk : 0 < k) : a.log2 < k := by
  by_cases z : a = 0
  · subst z
    rw [show Nat.log2 0 = 0 by rfl]
    exact hk
  · exact (Nat.log2_lt z).mpr h
theorem rangeL_mem {lo : Int} {n : Nat} {d : D} (h : d ∈ rangeL lo n) : ∃ i : Nat, i < n ∧ d = .int (lo + i) := by
  unfold rangeL at h
  obtain ⟨i, h1, h2⟩ := List.mem_map.mp h
  exact ⟨i, List.mem_range.mp h1, h2.symm⟩
theorem map_int_get {bs : List Int} {i : Nat} {d : D} (h : (bs.map D.int)[i]? = some d) : ∃ b, bs[i]? = some b ∧ d = .int b := by
  rw [List.getElem?_map] at h
  obtain ⟨b, h1, h2⟩ := Option.map_eq_some_iff.mp h
  exact ⟨b, h1, h2.symm⟩
theorem flats_ints {bs : List Int} {n : Nat} : flats (bs.map D.int) n = true := by
  induction bs with
  | nil => rfl
  | cons b bs ih =>
    show (flat (.int b) n && flats (bs.map D.int) n) = true
    rw [ih]
    rfl
theorem pys_ints {bs : List Int} : pys (bs.map D.int) = bs.map PyData.int := by
  induction bs with
  | nil => rfl
  | cons b bs ih =>
    show py (.int b) :: pys (bs.map D.int) = _
    rw [ih]
    rfl
theorem atI_at {α : Type} {xs : List α} {i : Nat} {x : α} (h : xs[i]? = some x) : L2.atI xs (i : Int) = some x := L2.atI_nat h
theorem rng1_n {j : Int} {M : MH} {n : Nat} (h : j = n) (hn : n < 1000000) : rng1D [.int j] M = .ok (rangeL 0 n) M := by
  subst h
  unfold rng1D
  simp only
  rw [if_pos (show (n : Int).natAbs < lim by rw [Int.natAbs_natCast]; exact hn), Int.toNat_natCast]
theorem lim_n : lim = 1000000 := rfl
theorem congr2 {α β γ : Type} {f : α → β → γ} {a a' : α} {b b' : β} (h : a = a') (k : b = b') : f a b = f a' b' := by rw [h, k]
/-! ### what the top has written -/
section
variable {K : PySem.W.Frag} {h : Heap} {mg : Str → Option Value} {x : Str} {st : Stmt} {f : Addr} {oc : Value} {od an : Option Addr} {sl : Array (Option Value)} {kV dc pm cd ct : Value}
theorem at_mk (X : K.In h) (G : h.Ns mainGlobals mg) (a : PySem.W.nsIn K mainGlobals x = some (some (.ref f))) (l : K.lookup f = some ⟨oc, od, .func (PySem.W.fnOf x x (defArgs st) (defBody st) (defScope st) .none kV dc pm an cd ct), sl⟩) (c : PySem.W.codeIn K cd x = true) (k : PySem.W.keepIn K (.ref f) = true) : At K mg x st [] [] :=
  ⟨f, _, PySem.W.mg_of X G a, ⟨⟨oc, od, .none, kV, dc, pm, an, cd, ct, sl, rfl, l, c, .inl ⟨rfl, rfl⟩, .inl rfl⟩, k⟩⟩
theorem at_mk1 {Dk : Addr} {y z : Str} {u : Tok} (X : K.In h) (G : h.Ns mainGlobals mg) (a : PySem.W.nsIn K mainGlobals x = some (some (.ref f))) (l : K.lookup f = some ⟨oc, od, .func (PySem.W.fnOf x x (defArgs st) (defBody st) (defScope st) .none (.ref Dk) dc pm an cd ct), sl⟩) (c : PySem.W.codeIn K cd x = true) (k : PySem.W.keepIn K (.ref f) = true)
    (d : PySem.W.nsIn K Dk y = some (some (.str z u))) : At K mg x st [] [(y, .str z)] :=
  ⟨f, _, PySem.W.mg_of X G a, ⟨⟨oc, od, .none, .ref Dk, dc, pm, an, cd, ct, sl, rfl, l, c, .inl ⟨rfl, rfl⟩, .inr ⟨Dk, rfl, fun q hq => by
    rw [List.mem_singleton.mp hq]
    exact ⟨_, d, _, rfl⟩⟩⟩, k⟩⟩
/-- the law's own def: its object is one -/
theorem law_fd {P : Program} {w : World} {k : Nat} {ps : List Str} {m : MF} {fa : Addr} (X : K.In h) (G : h.Ns mainGlobals mg) (hfa : mg x = some (.ref fa)) (a : PySem.W.nsIn K mainGlobals x = some (some (.ref f))) (l : K.lookup f = some ⟨oc, od, .func (PySem.W.fnOf x x (defArgs st) (defBody st) (defScope st) .none kV dc pm an cd ct), sl⟩)
    {base : Heap} (F : Fm P w K mg base k x st [] [] ps m) : FnG P w K mg base k fa (PySem.W.fnOf x x (defArgs st) (defBody st) (defScope st) .none kV dc pm an cd ct) ps (spM K ps.length m) := by
  obtain ⟨f2, fd2, e1, e2, e3⟩ := F.ex
  have e4 := PySem.W.mg_of X G a
  rw [hfa] at e1 e4
  cases e1
  cases e4
  obtain ⟨_, _, _, _, _, _, _, _, _, _, _, l2, _⟩ := e2.ex
  rw [l] at l2
  cases l2
  exact e3
end
theorem tab1 {K : PySem.W.Frag} {w : World} {p : Addr} {es : Array DictEntry} {n : Nat} {z : Str} {u : Value} {v : L2.V} {d : D} (l : K.lookup p = some ⟨.type "dict", none, .dict es n, #[]⟩) (kl : PySem.W.KeysLit w.params es.toList) (q : PySem.W.nsIn K p z = some (some u)) (r : L2.RelV v u) (f : Fix K d v) : ∃ v, L2.KDct K w p z v ∧ Fix K d v := ⟨v, ⟨es, n, u, l, kl, q, r⟩, f⟩
end Mi

end

section
/-! Mi, nineteenth part: constants of the text, all, any, list, min, max, += of a name. -/
namespace Mi
open PySem PySem.Spec PyProof.Rows L2
/-! ### constants of the text -/
theorem fix_bl {K : PySem.W.Frag} {b : Bool} : Fix K (.bl b) (.bl b) := fun _ _ => den_bl.mpr rfl
theorem fix_non {K : PySem.W.Frag} : Fix K .non .non := fun _ _ => den_non.mpr rfl
/-- a tuple that stands in the text -/
theorem fix_tup {K : PySem.W.Frag} {p : Addr} {o : Obj} {its : Array Value} {n : Nat} {ds : List D} {vs : List V} (l : K.lookup p = some o) (hc : o.cls = .type "tuple") (hd : o.data = .seq its n) (hz : its.size ≤ sizeLine) (r : Vals vs its.toList) (f : FixS K ds vs) : Fix K (.tup ds) (.ref p) :=
  fun ρ H => den_tup.mpr ⟨p, vs, rfl, .inr ⟨o, its, n, l, hc, hd, hz, r⟩, f ρ H⟩
section
variable {X : Cx}
/-! ### all, any of truths in a list -/
def blsD : List D → Option (List Bool)
  | [] => some []
  | .bl b :: ds => (blsD ds).map (b :: ·)
  | _ :: _ => none
theorem blsD_eq : ∀ {ds : List D} {bs : List Bool}, blsD ds = some bs → ds = bs.map D.bl
  | [], bs, e => by cases e; rfl
  | .bl b :: ds, bs, e => by
    obtain ⟨ms, e1, e2⟩ := Option.map_eq_some_iff.mp (show (blsD ds).map (b :: ·) = some bs from e)
    subst e2
    rw [List.map_cons, blsD_eq e1]
  | .non :: _, _, e => by cases e
  | .int _ :: _, _, e => by cases e
  | .str _ :: _, _, e => by cases e
  | .ty _ :: _, _, e => by cases e
  | .adr _ :: _, _, e => by cases e
  | .ref _ :: _, _, e => by cases e
  | .tup _ :: _, _, e => by cases e
  | .lst _ :: _, _, e => by cases e
  | .dct _ _ :: _, _, e => by cases e
  | .fn _ :: _, _, e => by cases e
  | .exo _ _ _ _ :: _, _, e => by cases e
theorem blsD_map (bs : List Bool) : blsD (bs.map D.bl) = some bs := by
  induction bs with
  | nil => rfl
  | cons b bs ih =>
    show (blsD (bs.map D.bl)).map (b :: ·) = _
    rw [ih]
    rfl
theorem dens_bls {K : PySem.W.Frag} {ρ : Rho} {H : Hp} {bs : List Bool} {vs : List V} (h : Dens K ρ H (bs.map D.bl) vs) : vs = bs.map V.bl := by
  induction bs generalizing vs with
  | nil => exact dens_nil.mp h
  | cons b bs ih =>
    obtain ⟨v, r, rfl, h1, h2⟩ := dens_cons.mp h
    rw [den_bl.mp h1, ih h2]
    rfl
def anyD : OpN := fun xs M => match xs with
  | [.lst ds] => match blsD ds with
    | some bs => .ok (.bl (bs.any id)) M
    | none => .err
  | _ => .err
def allD : OpN := fun xs M => match xs with
  | [.lst ds] => match blsD ds with
    | some bs => .ok (.bl (bs.all id)) M
    | none => .err
  | _ => .err
theorem q_any : QuietN anyD := by
  intro x M c fs M' e
  unfold anyD at e
  (repeat' split at e) <;> cases e
theorem q_all : QuietN allD := by
  intro x M c fs M' e
  unfold allD at e
  (repeat' split at e) <;> cases e
theorem o_any (hc : X.calm = true) : OpNR X (.builtin "any") anyD := by
  intro ρ M H xs vs Q Rl dv h
  unfold anyD at h
  split at h
  · obtain ⟨v, rfl, d⟩ := dens_one dv
    obtain ⟨a, ys, rfl, hs, hd⟩ := den_lst.mp d
    split at h
    · rename_i bs e
      rw [blsD_eq e] at hd
      rw [dens_bls hd] at hs
      exact ⟨_, cr_any hc, a, bs, rfl, hs.sq, here Rl h (den_bl.mpr rfl)⟩
    · exact h.elim
  · exact h.elim
theorem o_all (hc : X.calm = true) : OpNR X (.builtin "all") allD := by
  intro ρ M H xs vs Q Rl dv h
  unfold allD at h
  split at h
  · obtain ⟨v, rfl, d⟩ := dens_one dv
    obtain ⟨a, ys, rfl, hs, hd⟩ := den_lst.mp d
    split at h
    · rename_i bs e
      rw [blsD_eq e] at hd
      rw [dens_bls hd] at hs
      exact ⟨_, cr_all hc, a, bs, rfl, hs.sq, here Rl h (den_bl.mpr rfl)⟩
    · exact h.elim
  · exact h.elim

/-! ### list(t): a list that is only read -/
def listOfD : OpN := fun xs M => match xs with
  | [.tup ds] => .ok (.lst ds) M
  | [.lst ds] => .ok (.lst ds) M
  | [.ref l] => match M[l]? with
    | some (.lst ds) => .ok (.lst ds) M
    | _ => .err
  | _ => .err
theorem q_listOf : QuietN listOfD := by
  intro x M c fs M' e
  unfold listOfD at e
  (repeat' split at e) <;> cases e
theorem o_listOf : OpNR X (.type "list") listOfD := by
  intro ρ M H xs vs Q Rl dv h
  unfold listOfD at h
  split at h
  · obtain ⟨v, rfl, d⟩ := dens_one dv
    obtain ⟨a, ys, rfl, hs, hd⟩ := den_tup.mp d
    exact ⟨_, call_list_of, a, ys, rfl, .inr hs, newL Rl h hd⟩
  · obtain ⟨v, rfl, d⟩ := dens_one dv
    obtain ⟨a, ys, rfl, hs, hd⟩ := den_lst.mp d
    exact ⟨_, call_list_of, a, ys, rfl, .inl hs.sq, newL Rl h hd⟩
  · obtain ⟨v, rfl, d⟩ := dens_one dv
    split at h
    · rename_i ds hm
      obtain ⟨a, ys, rfl, hs, hd⟩ := cell_lst Rl d hm
      exact ⟨_, call_list_of, a, ys, rfl, .inl (SqL.of hs), newL Rl h hd⟩
    · exact h.elim
  · exact h.elim

/-! ### min(i, j), max(i, j) -/
def max2D : OpN := fun xs M => match xs with
  | [.int i, .int j] => .ok (.int (max i j)) M
  | _ => .err
def min2D : OpN := fun xs M => match xs with
  | [.int i, .int j] => .ok (.int (min i j)) M
  | _ => .err
theorem q_max2 : QuietN max2D := by
  intro x M c fs M' e
  unfold max2D at e
  split at e <;> cases e
theorem q_min2 : QuietN min2D := by
  intro x M c fs M' e
  unfold min2D at e
  split at e <;> cases e
theorem o_max2 (hc : X.calm = true) : OpNR X (.builtin "max") max2D := by
  intro ρ M H xs vs Q Rl dv h
  unfold max2D at h
  split at h
  · rename_i i j
    refine ⟨_, call_max2 hc, i, j, dens_ints_inv (ns := [i, j]) dv, ?_⟩
    have e : (if j > i then j else i) = max i j := by split <;> omega
    rw [e]
    exact here Rl h (den_int.mpr rfl)
  · exact h.elim
theorem o_min2 (hc : X.calm = true) : OpNR X (.builtin "min") min2D := by
  intro ρ M H xs vs Q Rl dv h
  unfold min2D at h
  split at h
  · rename_i i j
    refine ⟨_, call_min2 hc, i, j, dens_ints_inv (ns := [i, j]) dv, ?_⟩
    have e : (if j < i then j else i) = min i j := by split <;> omega
    rw [e]
    exact here Rl h (den_int.mpr rfl)
  · exact h.elim

/-! ### name += e, of whole numbers -/
variable {W : WX}
def cAug (i : Nat) (m : ME) : MS := fun env M => match env[i]? with
  | some (some (.int k)) => andS (m env M) env fun d M1 => match d with
    | .int j => .nx (env.set i (some (.int (k + j)))) M1
    | _ => .err
  | _ => .err
theorem c_aug {i : Nat} {x : Str} {e : Expr} {pos pos' : Pos} {m : ME} (hN : X.N.Nodup) (h : SE X W e m) (hi : X.N[i]? = some x := by rfl) (hx : Loc X.env.scope x := by first | exact .inl rfl | exact .inr rfl)
    (hf : X.fn x = true ∨ X.env.scope.names.lookup x = some .local := by first | exact .inl rfl | exact .inr rfl | assumption) : SS X W (.AugAssign (.Name x pos') .Add e pos) (cAug i m) := by
  refine ps_imp (ps_aug hN hi hx h ip_add hf) fun D σ H q => ?_
  obtain ⟨ρ, M, env, Rl, E, q⟩ := q
  unfold cAug at q
  split at q
  · rename_i k ek
    obtain ⟨v, h1, h2⟩ := E.get i _ ek
    rw [den_int] at h2
    subst h2
    refine ⟨.int k, h1, ?_⟩
    refine andS_stp Rl E q fun d M1 ρ1 H1 v S R1 E1 dv q1 => ?_
    split at q1
    · rename_i j
      exact ⟨k, j, rfl, den_int.mp dv, q1 ρ1 H1 _ (Stp.refl (K := X.K) (M := M1)) R1 (E1.set i (den_int.mpr rfl))⟩
    · exact q1.elim
  · exact q.elim
end
end Mi

end

section
/-! Mi, twentieth part: methods of built-in types; a dict is laid. -/
namespace Mi
open PySem PySem.Spec PyProof.Rows L2
/-- what a method is asked of -/
def rcv (T : String) (x : D) (M : MH) : Bool := match x with
  | .str _ => T == "str"
  | .ref l => match M[l]? with
    | some (.lst _) => T == "list"
    | some (.dct _) => T == "dict"
    | _ => false
  | _ => false
theorem rcv_ty {K : PySem.W.Frag} {ρ : Rho} {M : MH} {H : Hp} {T : String} {x : D} {v : V} (Rl : Rel K ρ M H) (d : Den K ρ H x v) (r : rcv T x M = true) : tyV K T v H := by
  unfold rcv at r
  split at r
  · rw [den_str] at d
    subst d
    exact eq_of_beq r
  · split at r
    · rename_i ds hm
      obtain ⟨a, ys, rfl, hs, hd⟩ := cell_lst Rl d hm
      exact .inl ⟨eq_of_beq r, ys, SqL.of hs⟩
    · rename_i kvs hm
      obtain ⟨p, o, rfl, hl, ho⟩ := den_ref.mp d
      obtain ⟨b, ks, h1, h2, h3⟩ := Rl.obj _ _ hm
      rw [hl] at h1
      cases h1
      have e := ho b rfl
      subst e
      exact .inr (.inr (.inl ⟨eq_of_beq r, .inl ⟨ks, h2⟩⟩))
    · cases r
  · cases r
abbrev OpM := D → List D → MH → R D
def OpMR (X : Cx) (id : String) (g : OpM) : Prop := ∀ ρ M H x xs v vs Q, Rel X.K ρ M H → Den X.K ρ H x v → Dens X.K ρ H xs vs → ROk X.K ρ H Q (g x xs M) → ∃ r, MtR X id r ∧ r v vs H Q
def QuietM (g : OpM) : Prop := ∀ x xs M c fs M', g x xs M ≠ .exc c fs M'
def mMt (T : String) (g : OpM) (mo : ME) (ma : MA) : ME := fun env M => (mo env M).bind fun x M1 => if rcv T x M1 = true then (ma env M1).bind fun xs M2 => g x xs M2 else .err
section
variable {X : Cx} {W : WX} {o e : Expr} {es : List Expr} {mo : ME} {ma : MA} {name : Str} {apos cpos : Pos} {T id : String} {g : OpM}
theorem s_mt (pa : PlainAttrs T) (slot : Slot T name id) (hty : typeOf (.builtin id) = pure (.type "method_descriptor")) (om : OpMR X id g) (q : QuietM g) (ho : SE X W o mo) (ha : SA X W (e :: es) ma)
    (hbase : attributeBase o name X.env (eval o X.env) = eval o X.env := by rfl)
    (hfew : ((backTo cpos (starEach (e :: es) X.env)).all (fun x => !x.1) && (backToKw cpos (keywordEach [] X.env)).all (fun x => x.1.isSome) && decide ((e :: es).length + ([] : List Keyword).length + (if ([] : List Keyword).isEmpty then 0 else 1) < 30)) = true := by rfl)
    (hline : (apos.endLine == cpos.line) = true := by rfl) (hs : starEach (e :: es) X.env = (false, eval e X.env) :: starEach es X.env := by rfl) (hpl : (backTo cpos (starEach es X.env)).any (·.1) = false := by rfl) :
    SE X W (.Call (.Attribute o name apos) (e :: es) [] cpos) (mMt T g mo ma) := by
  refine ⟨fun pins s σ H Q I h => ?_⟩
  refine wpAny_Call_method_late hbase hfew hline rfl (thn (ho.run pins s σ H (fun x H1 => ∃ ρ M env d, Rel X.K ρ M H1 ∧ EnR X.K ρ H1 env σ ∧ Den X.K ρ H1 d x ∧ rcv T d M = true ∧ Ok X.K ρ H1 (DnD X.K) (fun c d H' => W c d σ H') Q ((ma env M).bind fun xs M2 => g d xs M2)) I ?_) fun v s1 ⟨x, H1, I1, r1, ρ, M, env, d, R1, E1, dx, rc, q1⟩ => ?_)
  · refine tm_bind (f := fun x env M1 => if rcv T x M1 = true then (ma env M1).bind fun xs M2 => g x xs M2 else .err) h fun x M1 ρ1 H1 v env R1 E1 dx h => ?_
    split at h
    · rename_i rc
      exact ⟨ρ1, M1, env, x, R1, E1, dx, rc, h⟩
    · exact h.elim
  obtain ⟨h1, h2⟩ := tyV_is I1 r1 (rcv_ty R1 dx rc)
  refine ⟨T, id, pa, slot, hty, h1, h2, ?_⟩
  have hA := ha.run cpos pins s1 σ H1 (fun vs H2 => ∃ r, MtR X id r ∧ r x vs H2 Q) I1 ⟨ρ, M, env, R1, E1, q1.bind fun xs M2 ρ2 H2 vs _ S R2 dv h => om ρ2 M2 H2 d xs x vs Q R2 (Den.step R1 S _ _ dx) dv (ok_quiet (q d xs M2) h)⟩
  rw [hs] at hA ⊢
  refine Calls.callWith_builtin (by show (false || (backTo cpos (starEach es X.env)).any (·.1)) = false; rw [hpl]; rfl) (Calls.evalArgs_plain ?_)
  exact thn hA fun us s2 ⟨vs, H2, I2, r2, r, hm, q2⟩ => hm pins s2 σ H2 x vs v us Q I2 r1 r2 q2
/-! ### xs.append(y) -/
def appD : OpM := fun x xs M => match x with
  | .ref l => match M[l]? with
    | some (.lst ds) => match xs with
      | [y] => if ds.length < lim then .ok .non (M.set l (.lst (ds ++ [y]))) else .err
      | _ => .err
    | _ => .err
  | _ => .err
theorem q_app : QuietM appD := by
  intro x xs M c fs M' e
  unfold appD at e
  (repeat' split at e) <;> cases e
theorem o_app : OpMR X "list.append" appD := by
  intro ρ M H x xs v vs Q Rl dx dv h
  unfold appD at h
  split at h
  · rename_i l
    obtain ⟨p, u, rfl, hl, ho⟩ := den_ref.mp dx
    split at h
    · rename_i ds hm
      obtain ⟨b, ys, h1, h2, h3⟩ := Rl.obj l _ hm
      have hl2 := h1
      rw [hl] at h1
      cases h1
      have ep := ho b rfl
      subst ep
      split at h
      · rename_i y
        obtain ⟨w, rfl, dw⟩ := dens_one dv
        split at h
        · rename_i hz
          have S : Stp ρ H ρ (upd H b (.lst (ys ++ [w]))) := Stp.write hl2
          refine ⟨_, mt_append, b, ys, w, rfl, rfl, h2, by rw [← h3.length]; exact lim_lt hz, ?_⟩
          exact h ρ _ .non S (Rl.write hl2 ⟨b, ys ++ [w], hl2, upd_same, Dens.step Rl S _ _ (h3.append (dens_cons.mpr ⟨w, [], rfl, dw, dens_nil.mpr rfl⟩))⟩) (den_non.mpr rfl)
        · exact h.elim
      · exact h.elim
    · exact h.elim
  · exact h.elim
theorem s_app (ho : SE X W o mo) (ha : SA X W (e :: es) ma)
    (hbase : attributeBase o "append" X.env (eval o X.env) = eval o X.env := by rfl)
    (hfew : ((backTo cpos (starEach (e :: es) X.env)).all (fun x => !x.1) && (backToKw cpos (keywordEach [] X.env)).all (fun x => x.1.isSome) && decide ((e :: es).length + ([] : List Keyword).length + (if ([] : List Keyword).isEmpty then 0 else 1) < 30)) = true := by rfl)
    (hline : (apos.endLine == cpos.line) = true := by rfl) (hs : starEach (e :: es) X.env = (false, eval e X.env) :: starEach es X.env := by rfl) (hpl : (backTo cpos (starEach es X.env)).any (·.1) = false := by rfl) :
    SE X W (.Call (.Attribute o "append" apos) (e :: es) [] cpos) (mMt "list" appD mo ma) := s_mt PySem.F.plainAttrs_list PySem.F.slot_list_append PySem.F.type_list_append o_app q_app ho ha hbase hfew hline hs hpl
end
end Mi

end

section
/-! Mi, twenty-first part: try .. except one class. -/
namespace Mi
open PySem PySem.Spec PyProof.Rows L2
/-- ex: which classes the handler takes -/
def cTry (ex : Str → Option Bool) (b h : MS) : MS := fun env M => match b env M with
  | .exc c fs env' M' => match ex c with
    | some true => h env' M'
    | some false => .exc c fs env' M'
    | none => .err
  | r => r
section
variable {X : Cx} {W : WX}
theorem c_try {x : Str} {c : Value} {body suite : List Stmt} {b0 : Stmt} {np pos pos' : Pos} {b h : MS} {ex : Str → Option Bool} (hs : X.stack = X.env :: X.outer) (hf : X.env.frame = some X.env.locals) (hc : Names X x c) (tk : Takes X W)
    (hx : ∀ k r, ex k = some r → ∀ cv, CN X.K k cv → PySem.W.exmOne X.K cv c = some r)
    (hb : ∀ (W' : WX) (pn : List (Addr × Obj)) (xe : Value → Shared → Prop), Takes (X.tr pn xe) W' → PassesOwn (model X.prog X.w) X.A X.env xe → SB (X.tr pn xe) W' body b)
    (hsu : ∀ (a : Addr) (oe : Obj) (cls : Value) (d : Option Addr) (pn : List (Addr × Obj)), Zc cls d oe → (∃ vs, oe.data = .fields vs) → SB (X.suite a ((a, oe) :: pn)) W (b0 :: suite) h) :
    SS X W (.Try body [.ExceptHandler (some (.Name x np)) none (b0 :: suite) pos'] [] [] pos) (cTry ex b h) := by
  refine ps_imp (ps_try_only (tb := fun W' => ts X.K W' b) (ts := fun _ _ _ => ts X.K W h) hs hf hc tk (fun W' pn xe t p => hb W' pn xe t p) fun a oe cls d pn z f => hsu a oe cls d pn z f) fun D σ H q => ?_
  obtain ⟨ρ, M, env, Rl, E, q⟩ := q
  refine ⟨ρ, M, env, Rl, E, ?_⟩
  unfold cTry at q
  cases e : b env M with
  | nx env' M' => rw [e] at q; exact q
  | ret d M' => rw [e] at q; exact q
  | bk env' M' => rw [e] at q; exact q
  | ct env' M' => rw [e] at q; exact q
  | err => rw [e] at q; exact q
  | exc cls fs env' M' =>
    rw [e] at q
    simp only at q
    intro ρ' H' d σ' cv cn S R' xr E'
    split at q
    · rename_i ec
      exact ⟨true, hx _ _ ec _ cn, fun _ a _ => ⟨ρ', M', env', R', E', q.step S⟩, fun z => nomatch z⟩
    · rename_i ec
      exact ⟨false, hx _ _ ec _ cn, (fun z => nomatch z), fun _ => q ρ' H' d σ' cv cn S R' xr E'⟩
    · exact q.elim
/-! ### raise X(..) of an own class without an own __init__ -/
theorem c_raise0 {C : Addr} {bmB : List Value} {B newId initId : String} {x : Str} {p : Pos} {e : Expr} {es : List Expr} {ma : MA} {pos cpos : Pos} (hc : X.calm = true) (tk : Takes X W) (F : ExcBaseFacts B newId initId bmB) (q : PySem.W.excIn X.K C bmB newId = true) (gC : X.mg x = some (.ref C)) (cn : CN X.K x (.ref C))
    (kC : PySem.W.keepIn X.K (.ref C) = true) (r : Raises X (.ref C)) (ha : SA X W (e :: es) ma) (hg : Gl X x := by rfl) (hdb : (x == ("__debug__" : Str)) = false := by decide)
    (he : starEach (e :: es) X.env = (false, eval e X.env) :: starEach es X.env := by rfl) (hpl : (backTo cpos (starEach es X.env)).any (·.1) = false := by rfl) :
    SS X W (.Raise (some (.Call (.Name x p) (e :: es) [] cpos)) none pos) (fun env M => andS (ma env M) env fun ds M1 => if ds.length ≤ lim then .exc x none env M1 else .err) := by
  refine ps_imp (ps_raise hc tk (pmk_ownA F q gC kC r hg ha hdb he hpl)) fun D σ H w => ?_
  obtain ⟨ρ, M, env, Rl, E, w⟩ := w
  refine andS_tm Rl E w fun ds M1 ρ1 H1 vs R1 E1 dv q1 => ?_
  split at q1
  · rename_i hz
    refine ⟨by rw [← dv.length]; exact lim_le hz, ?_⟩
    exact q1 ρ1 H1 none σ _ cn (Stp.refl (K := X.K) (M := M1)) R1 rfl E1
  · exact q1.elim
end
end Mi

end

section
/-! Mi, twenty-second part: what holds within a try's body and its suite; join; {}. -/
namespace Mi
open PySem PySem.Spec PyProof.Rows L2
theorem Cg.tr {X : Cx} {W W' : WX} {k : Nat} {pn : List (Addr × Obj)} {xe : Value → Shared → Prop} (c : Cg X W k) (t : Takes (X.tr pn xe) W') : Cg (X.tr pn xe) W' k := ⟨c.rm, c.gd, t⟩
theorem takesW0 {X : Cx} : Takes X W0 := fun _ _ h => by
  obtain ⟨_, _, _, _, _, _, _, _, _, _, _, _, _, _, _, _, w⟩ := h
  exact w.elim
theorem Cg.blk {X : Cx} {W : WX} {k : Nat} {s : Shared} {H : Hp} {scope : Scope} {env : Env} {fp : List Addr} (c : Cg X W k) : Cg (X.blk s H scope env fp) W0 k := ⟨c.rm, c.gd, takesW0⟩
section
variable {X : Cx} {W : WX}
/-! ### sep.join(xs) -/
def strsD : List D → Option (List Str)
  | [] => some []
  | .str b :: ds => (strsD ds).map (b :: ·)
  | _ :: _ => none
theorem strsD_eq : ∀ {ds : List D} {bs : List Str}, strsD ds = some bs → ds = bs.map D.str
  | [], bs, e => by cases e; rfl
  | .str b :: ds, bs, e => by
    obtain ⟨ms, e1, e2⟩ := Option.map_eq_some_iff.mp (show (strsD ds).map (b :: ·) = some bs from e)
    subst e2
    rw [List.map_cons, strsD_eq e1]
  | .non :: _, _, e => by cases e
  | .int _ :: _, _, e => by cases e
  | .bl _ :: _, _, e => by cases e
  | .ty _ :: _, _, e => by cases e
  | .adr _ :: _, _, e => by cases e
  | .ref _ :: _, _, e => by cases e
  | .tup _ :: _, _, e => by cases e
  | .lst _ :: _, _, e => by cases e
  | .dct _ _ :: _, _, e => by cases e
  | .fn _ :: _, _, e => by cases e
  | .exo _ _ _ _ :: _, _, e => by cases e
theorem dens_strs {K : PySem.W.Frag} {ρ : Rho} {H : Hp} {bs : List Str} {vs : List V} (h : Dens K ρ H (bs.map D.str) vs) : vs = bs.map V.str := by
  induction bs generalizing vs with
  | nil => exact dens_nil.mp h
  | cons b bs ih =>
    obtain ⟨v, r, rfl, h1, h2⟩ := dens_cons.mp h
    rw [den_str.mp h1, ih h2]
    rfl
def joinD : OpM := fun x xs M => match x, xs with
  | .str a, [.lst ds] => match strsD ds with
    | some ys => if (ys.map (·.length)).sum + ys.length * a.length ≤ lim then .ok (.str (Txt.join a ys)) M else .err
    | none => .err
  | _, _ => .err
theorem q_joinD : QuietM joinD := by
  intro x xs M c fs M' e
  unfold joinD at e
  (repeat' split at e) <;> cases e
theorem o_joinD : OpMR X "str.join" joinD := by
  intro ρ M H x xs v vs Q Rl dx dv h
  unfold joinD at h
  split at h
  · rename_i a ds
    rw [den_str] at dx
    subst dx
    obtain ⟨w, rfl, dw⟩ := dens_one dv
    obtain ⟨p, us, rfl, hs, hd⟩ := den_lst.mp dw
    split at h
    · rename_i ys e
      rw [strsD_eq e] at hd
      rw [dens_strs hd] at hs
      split at h
      · rename_i hz
        exact ⟨_, mt_join, a, p, ys, rfl, rfl, .inl hs.sq, Nat.le_trans hz (by decide), here Rl h (den_str.mpr rfl)⟩
      · exact h.elim
    · exact h.elim
  · exact h.elim
/-! ### {} -/
def mDct0 : ME := fun _ M => .ok (.ref M.length) (M ++ [.dct []])
theorem s_dct0 {pos : Pos} : SE X W (.Dict [] [] pos) mDct0 := pe_imp pe_dnewK fun σ H Q h => by
  obtain ⟨ρ, M, env, Rl, E, h⟩ := h
  intro p hp
  refine h (ρ.add p) _ (.ref p) (Stp.cell hp) (Rl.cell hp ⟨p, [], Rl.lastAt, upd_same, .nil⟩) ?_
  exact den_ref.mpr ⟨p, some p, rfl, Rl.lastAt, fun b e => (Option.some.inj e).symm⟩
end
end Mi

end

section
/-! Mi, part 23: exceptions that were caught, as values: try .. except X as e, isinstance, their fields. -/
namespace Mi
open PySem PySem.Spec PyProof.Rows L2

theorem exv_ok {P : Program} {w : World} {H : Hp} {h : Heap} {a : Addr} {cv : Value} {d : Option Addr} {oe : Obj} {vs : Array Value} (e : h.get? a = some oe) (z : Zc cv d oe) (f : oe.data = .fields vs) : ObjOk P w H h a (ExV cv d a) :=
  ⟨⟨oe, vs, e, z, f⟩, ⟨oe, e⟩, fun _ _ ⟨o, v, q, r⟩ k => ⟨o, v, k o q, r⟩⟩
theorem exv_at {P : Program} {w : World} {H : Hp} {h : Heap} {a : Addr} {cv : Value} {d : Option Addr} (ok : HOk P w H h) (e : H a = some (ExV cv d a)) : ∃ (oe : Obj) (vs : Array Value), h.get? a = some oe ∧ Zc cv d oe ∧ oe.data = .fields vs := by
  have x : ObjOk P w H h a (.ext fun h => ∃ (oe : Obj) (vs : Array Value), h.get? a = some oe ∧ Zc cv d oe ∧ oe.data = .fields vs) := ok a _ e
  exact x.1
section
variable {X : Cx} {pins : List (Addr × Obj)} {σ : L2.St} {H : Hp} {s : Shared}
/-- a thing that stands there already is told from now on -/
theorem inv_told {a : Addr} {o : HO} (I : L2.Inv X pins σ H s) (na : H a = none) (n0 : X.s_0.heap.get? a = none) (nL : a ≠ X.env.locals) (nC : ∀ x c, X.env.cells.lookup x = some c → c ≠ a) (nP : ∀ p ∈ X.pn ++ pins, p.1 ≠ a)
    (new : ObjOk X.prog X.w (upd H a o) s.heap a o) : L2.Inv X pins σ (upd H a o) s :=
  have ne : ∀ {b : Addr} {u : HO}, H b = some u → b ≠ a := fun q => ne_of_none q na
  { ok := I.ok, os := I.os, bare := I.bare, loc := I.loc, cell := I.cell, len := I.len
    base := ⟨I.base.keep, I.base.slot, fun b u q n x => by
      have nb : b ≠ a := fun e => by rw [e, n0] at q; cases q
      rw [upd_ne nb]
      exact I.base.free b u q n x, I.base.there, fun b xs q => by
      have z := I.base.tups b xs q
      rw [upd_ne (ne z)]; exact z, fun b u v q => by
      have z := I.base.frzs b u v q
      rw [upd_ne (ne z)]; exact z, fun b ps q => by
      obtain ⟨m, z⟩ := I.base.tbls b ps q
      exact ⟨m, by rw [upd_ne (ne z)]; exact z⟩⟩
    free := by rw [upd_ne (Ne.symm nL)]; exact I.free
    freeC := fun x c e => by rw [upd_ne (nC x c e)]; exact I.freeC x c e
    pin := fun p hp => by
      obtain ⟨q1, q2, q3⟩ := I.pin p hp
      exact ⟨q1, by rw [upd_ne (nP p hp)]; exact q2, q3⟩
    hok := I.hok.laidN (fun _ _ q => q) na new }
theorem inv_out {a : Addr} {pn' : List (Addr × Obj)} (I : L2.Inv (X.suite a (X.pn ++ pins)) pn' σ H s) (ok : X.Ok) : L2.Inv X pins σ H s :=
  { ok := ok, os := I.os, bare := I.bare, base := I.base, loc := I.loc, cell := I.cell, free := I.free, freeC := I.freeC, hok := I.hok, len := I.len, pin := fun p hp => I.pin p (List.mem_append_left _ hp) }
theorem inv_in {a : Addr} (I : L2.Inv X pins σ H s) : L2.Inv (X.suite a (X.pn ++ pins)) [] σ H s :=
  { ok := I.ok.suite _ _, os := I.os, bare := I.bare, base := I.base, loc := I.loc, cell := I.cell, free := I.free, freeC := I.freeC, hok := I.hok, len := I.len, pin := fun p hp => I.pin p (by rw [List.append_nil] at hp; exact hp) }
end

/-- the ends of a suite whose name goes behind it -/
def goneEnds (i : Nat) (D : Ends) : Ends := { nx := fun τ G => D.nx (τ.set i none) G, rt := D.rt, bk := fun τ G => D.bk (τ.set i none) G, ct := fun τ G => D.ct (τ.set i none) G }
/-- what the clause wishes; the exception is told at its address -/
def wVal (K : PySem.W.Frag) (c : Value) (i : Nat) (ts : Value → Option Addr → Addr → TS) (Wout : WX) (D : Ends) : WX := fun cls d τ G =>
  ∃ b, PySem.W.exmOne K cls c = some b ∧ (b = true → ∀ a, G a = none → ts cls d a (goneEnds i D) (τ.set i (some (.ref a))) (upd G a (ExV cls d a))) ∧ (b = false → Wout cls d τ G)
/-- what is done with an exception of the body -/
def caught (X : Cx) (pins : List (Addr × Obj)) (D : Ends) (hd : List ExceptHandler) : Value → Shared → Prop := fun e s1 =>
  wpAny (model X.prog X.w) X.A (noteFrame e X.env) (fun _ s2 => wpAny (model X.prog X.w) X.A (setFlight e none) (fun _ s3 => wpAny (model X.prog X.w) X.A (handleBy e X.env hd) (SP X pins D) X.xe s3) X.xe s2) X.xe s1
section
variable {X : Cx} {x n : Str} {c : Value} {i : Nat} {body suite : List Stmt} {b0 : Stmt} {np pos pos' : Pos} {tb : WX → TS} {ts : Value → Option Addr → Addr → TS} {Wout : WX}
theorem ps_try_val (hs : X.stack = X.env :: X.outer) (hf : X.env.frame = some X.env.locals) (hx : X.ex = []) (hN : X.N.Nodup) (hi : X.N[i]? = some n) (hl : X.env.kindOf n = some .local) (hc : Names X x c) (tk : Takes X Wout)
    (hb : ∀ (W : WX) (pn : List (Addr × Obj)) (xe : Value → Shared → Prop), Takes (X.tr pn xe) W → PassesOwn (model X.prog X.w) X.A X.env xe → PSs (X.tr pn xe) body (tb W))
    (hsu : ∀ (a : Addr) (cls : Value) (d : Option Addr) (pn : List (Addr × Obj)), PSs (X.suite a pn) (b0 :: suite) (ts cls d a)) :
    PS X (.Try body [.ExceptHandler (some (.Name x np)) (some n) (b0 :: suite) pos'] [] [] pos) (fun D σ H => tb (wVal X.K c i ts Wout D) D σ H) := by
  refine ⟨fun pins s σ H D I h => ?_⟩
  have ok := I.ok
  have frm : X.A.frames = some (X.env :: X.outer) := by rw [ok.frames, hs]
  have lc : Loc X.env.scope n := .inl hl
  refine wpAny_Try_except ?_
  have take : Takes (X.tr (X.pn ++ pins) (caught X pins D [.ExceptHandler (some (.Name x np)) (some n) (b0 :: suite) pos'])) (wVal X.K c i ts Wout D) := by
    intro u s' xx
    obtain ⟨a, B, sI, pins', σ', H', cls, d, rfl, J', nb, up, sky, na, os, ag, b, hb1, hyes, hno⟩ := xx
    have J : L2.Inv X pins σ' H' sI := J'.ofTry ok
    rw [show (X.tr (X.pn ++ pins) (caught X pins D [.ExceptHandler (some (.Name x np)) (some n) (b0 :: suite) pos'])).stack = X.env :: X.outer from hs] at sky
    unfold caught
    refine Sky.land Zc.steady frm hf sky fun h3 fl3 up3 => ?_
    -- the exception's own object is none of ours
    have frameless : ∀ {g : Heap} {o : Obj} {vs : Array Value}, g.FunFrames B (X.env :: X.outer) → g.get? a = some o → o.data = .fields vs → a ∉ frs (X.env :: X.outer) := by
      intro g o vs ff e dd hm
      obtain ⟨_, o', e', hnf⟩ := ff.mem hm
      rw [e] at e'; cases e'
      exact hnf _ dd
    obtain ⟨oe3, vs3, he3, hz3, hd3⟩ := fl3.there
    have nfr := frameless fl3.2.2.1 he3 hd3
    have nL : a ≠ X.env.locals := fun z => nfr (List.mem_filterMap.mpr ⟨X.env, List.mem_cons_self, by rw [hf, z]⟩)
    have nI : sI.heap.get? a = none := by
      cases q : sI.heap.get? a with
      | none => rfl
      | some o =>
        have z := nb a o q (by rw [show (X.tr (X.pn ++ pins) (caught X pins D [.ExceptHandler (some (.Name x np)) (some n) (b0 :: suite) pos'])).stack = X.env :: X.outer from hs]; exact nfr)
        rw [fl3.2.1] at z; cases z
    have n0 : X.s_0.heap.get? a = none := by
      cases q : X.s_0.heap.get? a with
      | none => rfl
      | some o =>
        obtain ⟨o', z⟩ := J.base.there a o q (by rw [hx]; simp)
        rw [nI] at z; cases z
    have nC : ∀ y k, X.env.cells.lookup y = some k → k ≠ a := fun y k e z => by
      obtain ⟨v, o, q, _⟩ := J.cell y k e
      rw [z, nI] at q; cases q
    have nP : ∀ p ∈ X.pn ++ pins, p.1 ≠ a := fun p hp z => by
      obtain ⟨q, _⟩ := J.pin p hp
      rw [z, nI] at q; cases q
    have J3 : L2.Inv X pins σ' H' { s' with heap := h3 } := J.landed nb fl3.1 (up.trans up3) os ag
    have tell : ∀ {g : Heap}, HandSPX.FlyingZ B (X.env :: X.outer) a (Zc cls d) g → L2.Inv X pins σ' H' { s' with heap := g } → L2.Inv X pins σ' (upd H' a (ExV cls d a)) { s' with heap := g } := fun {g} fl G => by
      obtain ⟨oe, vs, e1, e2, e3⟩ := fl.there
      exact inv_told G na n0 nL nC nP (exv_ok e1 e2 e3)
    have S3 : L2.Inv (X.suite a (X.pn ++ pins)) [] σ' (upd H' a (ExV cls d a)) { s' with heap := h3 } := inv_in (tell fl3 J3)
    refine wpAny_handleBy_cons (codeAny_handlers_test ?_) (by intro q; cases q)
    have clsAt : PySem.W.Looks (model X.prog X.w) h3 (typeOf (.ref a)) cls := fun A Q E s k q => wpAny_typeOf_ref (k _ _ he3) (by rw [hz3.1]; exact q)
    have looked := PySem.W.exm_one (M := model X.prog X.w) J3.kIn clsAt hb1
    have name : ∀ {Q E : Value → Shared → Prop}, Q c { s' with heap := h3 } → wpAny (model X.prog X.w) (X.A.mark (some (.ref a))) (eval (.Name x np) X.env) Q E { s' with heap := h3 } := by
      intro Q E q
      rcases hc with ⟨hg, hdbg, hm | ⟨hm, hv, hnn⟩⟩
      · exact ld_glob (X := X.suite a (X.pn ++ pins)) S3 hg hm q hdbg
      · exact ld_blt (X := X.suite a (X.pn ++ pins)) S3 hg hm hv q hnn hdbg
    refine name (looked.here ?_)
    cases b with
    | true =>
      refine codeAny_handlers_suite_as ?_
      refine HandSPX.lands_againZ fl3 fun h4 fl4 up4 => ?_
      have S4 : L2.Inv (X.suite a (X.pn ++ pins)) [] σ' (upd H' a (ExV cls d a)) { s' with heap := h4 } := inv_in (tell fl4 (J.landed nb fl4.1 ((up.trans up3).trans up4) os ag))
      refine store_ok (X := X.suite a (X.pn ++ pins)) (v := .ref a) S4 hN hi lc rfl (fun s5 S5 => ?_) (.inr hl)
      refine wpAny_mono ((hsu a cls d (X.pn ++ pins)).run [] s5 _ _ (goneEnds i D) S5 (hyes rfl a na)) (fun f s6 hsp => ?_) fun _ _ z => False.elim z
      have over : ∀ {τ : L2.St} {G : Hp} {Q : Shared → Prop}, L2.Inv (X.suite a (X.pn ++ pins)) [] τ G s6 → (∀ s7, L2.Inv X pins (τ.set i none) G s7 → Q s7) →
          wpAny (model X.prog X.w) X.A (do bindName X.env n .none; unbindBehindTheSuite X.env n pos') (fun _ s7 => Q s7) X.xe s6 := fun S6 hq => gone_ok (inv_out S6 ok) hN hi hl hq
      cases f with
      | next =>
        rcases hsp with ⟨τ, G, S6, q6⟩
        exact over S6 fun s7 J7 => ⟨_, _, J7, q6⟩
      | brk =>
        rcases hsp with ⟨τ, G, S6, q6⟩
        exact over S6 fun s7 J7 => ⟨_, _, J7, q6⟩
      | cont =>
        rcases hsp with ⟨τ, G, S6, q6⟩
        exact over S6 fun s7 J7 => ⟨_, _, J7, q6⟩
      | ret u =>
        rcases hsp with ⟨v6, τ, G, S6, r6, q6⟩
        exact over S6 fun s7 J7 => ⟨_, _, _, J7, r6, q6⟩
    | false =>
      refine wpAny_handleBy_nil ?_
      obtain ⟨_, _, _, oe, vs, T, oT, ts', he, hz, hd, h1, hr⟩ := id fl3
      unfold PySem.passOn
      refine wpAny_bind (wpAny_field he hd h1 ?_)
      rw [if_neg (show ¬ ((Value.ref T == Value.none) = true) by simp)]
      have on : wpAny (model X.prog X.w) X.A (setFlight (.ref a) X.env.frame) (fun _ s4 => wpAny (model X.prog X.w) X.A (throw (.ref a) : Sem Flow) (SP X pins D) X.xe s4) X.xe { s' with heap := h3 } := by
        rw [hf]
        refine HandSPX.setFlight_upZ fl3 fun h4 hh4 up4 => wpAny_throw (tk _ _ ?_)
        exact ⟨a, B, sI, pins, σ', H', cls, d, rfl, J, nb, (up.trans up3).trans up4, .inr (.inr (by rw [hs]; exact hh4)), na, os, ag, hno rfl⟩
      first
        | exact wpAny_bind (wpAny_pure (wpAny_bind on))
        | exact wpAny_bind on
  refine wpAny_mono ((hb (wVal X.K c i ts Wout D) (X.pn ++ pins) (caught X pins D _) take PassesOwn.looking).run [] s σ H D (I.toTry _) h) (fun f s1 hsp => ?_) fun e s1 he => he
  cases f with
  | next =>
    rcases hsp with ⟨τ, G, J', q⟩
    exact wpAny_execs_nil ⟨τ, G, J'.ofTry ok, q⟩
  | brk =>
    rcases hsp with ⟨τ, G, J', q⟩
    exact ⟨τ, G, J'.ofTry ok, q⟩
  | cont =>
    rcases hsp with ⟨τ, G, J', q⟩
    exact ⟨τ, G, J'.ofTry ok, q⟩
  | ret u =>
    rcases hsp with ⟨v, τ, G, J', r, q⟩
    exact ⟨v, τ, G, J'.ofTry ok, r, q⟩
end

/-! ### as functions on data -/
/-- the slot's worth of a caught exception -/
def exoOf (c : Str) : Option (List (Str × D)) → D
  | none => .exo c false [] []
  | some fs => .exo c true (fs.map (·.1)) (fs.map (·.2))
def cTryAs (i : Nat) (ex : Str → Option Bool) (b h : MS) : MS := fun env M => match b env M with
  | .exc c fs env' M' => match ex c with
    | some true => match h (env'.set i (some (exoOf c fs))) M' with
      | .nx e2 M2 => .nx (e2.set i none) M2
      | .bk e2 M2 => .bk (e2.set i none) M2
      | .ct e2 M2 => .ct (e2.set i none) M2
      | .ret d M2 => .ret d M2
      | _ => .err
    | some false => .exc c fs env' M'
    | none => .err
  | r => r
theorem den_exoOf {K : PySem.W.Frag} {ρ : Rho} {M : MH} {H : Hp} {c : Str} {cv : Value} {fs : Option (List (Str × D))} {d : Option Addr} {a : Addr} (R : Rel K ρ M H) (cn : CN K c cv) (x : XRel K ρ H fs d) (na : H a = none) : Den K ρ (upd H a (ExV cv d a)) (exoOf c fs) (.ref a) := by
  have S : Stp ρ H ρ (upd H a (ExV cv d a)) := Stp.alloc na
  cases fs with
  | none =>
    unfold XRel at x
    exact den_exo.mpr ⟨a, cv, d, rfl, cn, upd_same, .inl ⟨rfl, x⟩⟩
  | some fs =>
    obtain ⟨dd, gs, e1, e2, e3⟩ := x
    refine den_exo.mpr ⟨a, cv, d, rfl, cn, upd_same, .inr ⟨rfl, dd, gs, e1, by rw [upd_ne (ne_of_none e2 na)]; exact e2, ?_, ?_⟩⟩
    · clear e1 e2 S R
      induction e3 with
      | nil => rfl
      | cons r _ ih => rw [List.map_cons, List.map_cons, r.1, ih]
    · refine Dens.step R S _ _ ?_
      clear e1 e2 S
      induction e3 with
      | nil => exact dens_nil.mpr rfl
      | cons r _ ih => exact dens_cons.mpr ⟨_, _, rfl, r.2, ih⟩
theorem EnR.unset {K : PySem.W.Frag} {ρ : Rho} {H : Hp} {env : En} {σ : L2.St} (e : EnR K ρ H env σ) (i : Nat) : EnR K ρ H (env.set i none) (σ.set i none) := by
  refine ⟨by simp [e.len], fun j d hj => ?_⟩
  by_cases q : i = j
  · subst q
    by_cases hl : i < env.length
    · rw [List.getElem?_set_self hl] at hj; cases hj
    · rw [List.getElem?_eq_none (by simpa using hl)] at hj; cases hj
  · rw [List.getElem?_set_ne q] at hj
    rw [List.getElem?_set_ne q]
    exact e.get j d hj
section
variable {X : Cx} {W : WX}
theorem c_try_as {x n : Str} {c : Value} {i : Nat} {body suite : List Stmt} {b0 : Stmt} {np pos pos' : Pos} {b h : MS} {ex : Str → Option Bool} (hs : X.stack = X.env :: X.outer) (hf : X.env.frame = some X.env.locals) (hx0 : X.ex = []) (hN : X.N.Nodup) (hi : X.N[i]? = some n) (hl : X.env.kindOf n = some .local) (hc : Names X x c) (tk : Takes X W)
    (hx : ∀ k r, ex k = some r → ∀ cv, CN X.K k cv → PySem.W.exmOne X.K cv c = some r)
    (hb : ∀ (W' : WX) (pn : List (Addr × Obj)) (xe : Value → Shared → Prop), Takes (X.tr pn xe) W' → PassesOwn (model X.prog X.w) X.A X.env xe → SB (X.tr pn xe) W' body b)
    (hsu : ∀ (a : Addr) (pn : List (Addr × Obj)), SB (X.suite a pn) W0 (b0 :: suite) h) :
    SS X W (.Try body [.ExceptHandler (some (.Name x np)) (some n) (b0 :: suite) pos'] [] [] pos) (cTryAs i ex b h) := by
  refine ps_imp (ps_try_val (tb := fun W' => Mi.ts X.K W' b) (ts := fun _ _ _ => Mi.ts X.K W0 h) hs hf hx0 hN hi hl hc tk (fun W' pn xe t p => hb W' pn xe t p) fun a cls d pn => hsu a pn) fun D σ H q => ?_
  obtain ⟨ρ, M, env, Rl, E, q⟩ := q
  refine ⟨ρ, M, env, Rl, E, ?_⟩
  unfold cTryAs at q
  cases e : b env M with
  | nx env' M' => rw [e] at q; exact q
  | ret d M' => rw [e] at q; exact q
  | bk env' M' => rw [e] at q; exact q
  | ct env' M' => rw [e] at q; exact q
  | err => rw [e] at q; exact q
  | exc k fs env' M' =>
    rw [e] at q
    simp only at q
    intro ρ' H' d σ' cv cn S R' xr E'
    split at q
    · rename_i ec
      refine ⟨true, hx _ _ ec _ cn, fun _ a na => ?_, fun z => nomatch z⟩
      have S2 : Stp ρ' H' ρ' (upd H' a (ExV cv d a)) := Stp.alloc na
      refine ⟨ρ', M', _, R'.alloc na, (E'.step R' S2).set i (den_exoOf R' cn xr na), ?_⟩
      cases e2 : h (env'.set i (some (exoOf k fs))) M' with
      | nx e3 M3 =>
        rw [e2] at q
        exact fun ρ3 H3 σ3 S3 R3 E3 => q ρ3 H3 _ ((S.trans S2).trans S3) R3 (E3.unset i)
      | bk e3 M3 =>
        rw [e2] at q
        exact fun ρ3 H3 σ3 S3 R3 E3 => q ρ3 H3 _ ((S.trans S2).trans S3) R3 (E3.unset i)
      | ct e3 M3 =>
        rw [e2] at q
        exact fun ρ3 H3 σ3 S3 R3 E3 => q ρ3 H3 _ ((S.trans S2).trans S3) R3 (E3.unset i)
      | ret d3 M3 =>
        rw [e2] at q
        exact fun ρ3 H3 v S3 R3 dv => q ρ3 H3 v ((S.trans S2).trans S3) R3 dv
      | exc _ _ _ _ => rw [e2] at q; exact q.elim
      | err => rw [e2] at q; exact q.elim
    · rename_i ec
      exact ⟨false, hx _ _ ec _ cn, (fun z => nomatch z), fun _ => q ρ' H' d σ' cv cn S R' xr E'⟩
    · exact q.elim
end
end Mi

end

section
/-! Mi, part 24: isinstance of a caught exception, its fields. -/
namespace Mi
open PySem PySem.Spec PyProof.Rows L2

/-- what the written part says of an exception class of the text -/
structure XC (K : PySem.W.Frag) (c : Str) (C : Addr) : Prop where
  nm : PySem.W.nsIn K mainGlobals c = some (some (.ref C))
  cl : (PySem.W.clsIn K C).isSome = true
  ga : PySem.W.findIn K (.ref C) "__getattribute__" = some (some (.builtin "BaseException.__getattribute__"))
  gt : PySem.W.findIn K (.ref C) "__getattr__" = some none
  su : PySem.W.subIn K (.ref C) (.type "BaseException") = some true
  ac : PySem.W.findIn K (.ref C) "__class__" = some (some (.builtin "object.__class__"))
  sp : PySem.W.specialIn K (.builtin "object.__class__") "__get__" = some (some (.builtin "getset_descriptor.__get__"))
  tk : PySem.W.takesIn K (.builtin "object.__class__") = some true
  mo : PySem.W.mroIn K C (.type "object") = some true
  hd : PySem.W.hasDictIn K C = true
/-- a class in isinstance: of the text, built in -/
abbrev Ck := Sum Str String
def CkV (K : PySem.W.Frag) : Ck → Value → Prop
  | .inl n, v => CN K n v
  | .inr n, v => v = .type n
abbrev ITab := List (Str × List (Ck × Bool))
def IOk (K : PySem.W.Frag) (T : ITab) : Prop := ∀ p ∈ T, ∃ C, XC K p.1 C ∧ ∀ q ∈ p.2, ∀ nv, CkV K q.1 nv → PySem.W.kitOne K (.ref C) nv = some q.2
def isE (T : ITab) (c : Str) (k : Ck) : Option Bool := (T.find? fun p => decide (p.1 = c)).bind fun p => (p.2.find? fun q => decide (q.1 = k)).map (·.2)
def ckOf : D → Option Ck
  | .fn n => some (.inl n)
  | .ty n => some (.inr n)
  | _ => none
def isEs (T : ITab) (c : Str) : List D → Option Bool
  | [] => some false
  | d :: ds => match (ckOf d).bind (isE T c) with
    | some true => some true
    | some false => isEs T c ds
    | none => none
/-- isinstance, of exceptions too -/
def isiE (T : ITab) : OpN := fun xs M => match xs with
  | [.exo c hd ks ds, k] => match k with
    | .tup (k0 :: cs) => match isEs T c (k0 :: cs) with
      | some b => .ok (.bl b) M
      | none => .err
    | k => match (ckOf k).bind (isE T c) with
      | some b => .ok (.bl b) M
      | none => .err
  | xs => isiD xs M
theorem q_isiE {T : ITab} : QuietN (isiE T) := by
  intro x M c fs M' e
  unfold isiE at e
  split at e
  · (repeat' split at e) <;> cases e
  · exact q_isi _ _ _ _ _ e
theorem isE_kit {K : PySem.W.Frag} {T : ITab} (ok : IOk K T) {c : Str} {C : Addr} (cn : CN K c (.ref C)) {k : Ck} {b : Bool} (e : isE T c k = some b) : XC K c C ∧ ∀ nv, CkV K k nv → PySem.W.kitOne K (.ref C) nv = some b := by
  unfold isE at e
  obtain ⟨p, e1, e2⟩ := Option.bind_eq_some_iff.mp e
  obtain ⟨q, e3, e4⟩ := Option.map_eq_some_iff.mp e2
  obtain ⟨C', x, hq⟩ := ok p (List.mem_of_find?_eq_some e1)
  have h1 : p.1 = c := by simpa using List.find?_some e1
  have h2 : q.1 = k := by simpa using List.find?_some e3
  have h3 : Value.ref C' = .ref C := CN.uniq (.inl (h1 ▸ x.nm)) cn
  cases h3
  subst h1 h2 e4
  exact ⟨x, hq q (List.mem_of_find?_eq_some e3)⟩
theorem isE_cls {K : PySem.W.Frag} {T : ITab} (ok : IOk K T) {c : Str} {cv : Value} (cn : CN K c cv) {k : Ck} {b : Bool} (e : isE T c k = some b) : ∃ C, cv = .ref C := by
  unfold isE at e
  obtain ⟨p, e1, e2⟩ := Option.bind_eq_some_iff.mp e
  obtain ⟨C', x, hq⟩ := ok p (List.mem_of_find?_eq_some e1)
  have h1 : p.1 = c := by simpa using List.find?_some e1
  exact ⟨C', (CN.uniq (.inl (h1 ▸ x.nm)) cn).symm⟩
/-- its dict, if it has one -/
def XDict (H : Hp) (d : Option Addr) : Prop := d = none ∨ ∃ dd gs, d = some dd ∧ H dd = some (.xd gs)
section
variable {X : Cx} {pins : List (Addr × Obj)} {σ : L2.St} {H : Hp} {s : Shared}
theorem exv_inst (I : L2.Inv X pins σ H s) {a C : Addr} {d : Option Addr} (e : H a = some (ExV (.ref C) d a)) (hd : XDict H d) : ∃ oe od, PySem.W.InstAt s.heap a oe C od := by
  obtain ⟨oe, vs, e1, ⟨z1, z2⟩, f⟩ := exv_at I.hok e
  rcases hd with rfl | ⟨dd, gs, rfl, hg⟩
  · refine ⟨oe, none, e1, z1, ?_, ?_⟩
    · unfold PySem.W.notCls
      rw [f] <;> rfl
    · rw [z2] <;> trivial
  · have hx : ObjOk X.prog X.w H s.heap dd (.xd gs) := I.hok dd _ hg
    obtain ⟨mA, ⟨o, es, ep, e2, e3⟩, hr⟩ := hx
    refine ⟨oe, some o, e1, z1, ?_, ?_⟩
    · unfold PySem.W.notCls
      rw [f] <;> rfl
    · rw [z2]; exact e2
/-- isinstance(e, C) -/
def rIsV (K : PySem.W.Frag) : List V → Hp → VK → Prop := fun vs H Q => ∃ (a C : Addr) (c : Str) (d : Option Addr) (t : V) (b : Bool), vs = [.ref a, t] ∧ H a = some (ExV (.ref C) d a) ∧ XDict H d ∧ XC K c C ∧ (∀ u, RelV t u → PySem.W.kitOne K (.ref C) u = some b) ∧ Q (.bl b) H
theorem call_isV : CallR X (.builtin "isinstance") (rIsV X.K) := by
  intro pins s σ H xs us Q I r h
  obtain ⟨a, C, c, d, t, b, rfl, ha, hd, x, e, q⟩ := h
  cases r with
  | cons rx rr =>
    cases rr with
    | cons rt rr =>
      cases rr
      cases rx
      obtain ⟨oe, od, J⟩ := exv_inst I ha hd
      exact PySem.W.kia_one (PySem.W.kitx_exc x.cl x.ga x.gt x.su x.ac x.sp x.tk x.mo) I.kIn J (e _ rt) (fun z => nomatch z) fun tk => ⟨.bl b, H, I.kept (t' := tk) fun _ _ z => z, rfl, q⟩
/-- isinstance(e, (C, ..)) -/
def rIsVs (K : PySem.W.Frag) : List V → Hp → VK → Prop := fun vs H Q => ∃ (a C p : Addr) (c : Str) (d : Option Addr) (ts : List V) (b : Bool), vs = [.ref a, .ref p] ∧ H a = some (ExV (.ref C) d a) ∧ XDict H d ∧ XC K c C ∧ SqT K H p ts ∧ (∀ us, Vals ts us → PySem.W.kitAny K (.ref C) us = some b) ∧ Q (.bl b) H
theorem call_isVs : CallR X (.builtin "isinstance") (rIsVs X.K) := by
  intro pins s σ H xs us Q I r h
  obtain ⟨a, C, p, c, d, ts, b, rfl, ha, hd, x, hs, e, q⟩ := h
  cases r with
  | cons rx rr =>
    cases rr with
    | cons rt rr =>
      cases rr
      cases rx
      cases rt
      obtain ⟨oe, od, J⟩ := exv_inst I ha hd
      obtain ⟨its, rv, ⟨o, e1, e2, n, e3⟩, hz⟩ := I.tuple hs
      obtain ⟨oc, odd, odt, osl⟩ := o
      dsimp only at e2 e3
      subst e2 e3
      exact PySem.W.kia_tup (PySem.W.kitx_exc x.cl x.ga x.gt x.su x.ac x.sp x.tk x.mo) I.kIn J e1 (e _ rv) (fun z => nomatch z) fun tk => ⟨.bl b, H, I.kept (t' := tk) fun _ _ z => z, rfl, q⟩
end
theorem ck_val {K : PySem.W.Frag} {ρ : Rho} {H : Hp} {k : D} {ck : Ck} {t : V} {u : Value} (e : ckOf k = some ck) (h : Den K ρ H k t) (r : RelV t u) : CkV K ck u := by
  unfold ckOf at e
  split at e
  · cases e
    obtain ⟨a, h1, rfl⟩ := den_fn.mp h
    cases r
    exact .inl h1
  · cases e
    rw [den_ty] at h
    subst h
    exact r
  · cases e
theorem isEs_kit {K : PySem.W.Frag} {T : ITab} (ok : IOk K T) {c : Str} {C : Addr} (cn : CN K c (.ref C)) {ρ : Rho} {H : Hp} : ∀ {ds : List D} {xs : List V} {us : List Value} {b : Bool}, isEs T c ds = some b → Dens K ρ H ds xs → Vals xs us → PySem.W.kitAny K (.ref C) us = some b
  | [], xs, us, b, e, h, r => by
    rw [dens_nil] at h
    subst h
    cases r
    exact e
  | d :: ds, xs, us, b, e, h, r => by
    obtain ⟨v, w, rfl, h1, h2⟩ := dens_cons.mp h
    cases r with
    | cons r1 r2 =>
      unfold isEs at e
      unfold PySem.W.kitAny
      cases q : ckOf d with
      | none => rw [q] at e; cases e
      | some k =>
        rw [q] at e
        simp only [Option.bind_some] at e
        cases q2 : isE T c k with
        | none => rw [q2] at e; cases e
        | some b1 =>
          rw [q2] at e
          rw [(isE_kit ok cn q2).2 _ (ck_val q h1 r1)]
          cases b1 with
          | true => exact e
          | false => exact isEs_kit ok cn e h2 r2
theorem isEs_cls {K : PySem.W.Frag} {T : ITab} (ok : IOk K T) {c : Str} {cv : Value} (cn : CN K c cv) {d : D} {ds : List D} {b : Bool} (e : isEs T c (d :: ds) = some b) : ∃ C, cv = .ref C ∧ XC K c C := by
  unfold isEs at e
  cases q : ckOf d with
  | none => rw [q] at e; cases e
  | some k =>
    rw [q] at e
    simp only [Option.bind_some] at e
    cases q2 : isE T c k with
    | none => rw [q2] at e; cases e
    | some b1 =>
      obtain ⟨C, rfl⟩ := isE_cls ok cn q2
      exact ⟨C, rfl, (isE_kit ok cn q2).1⟩
theorem exo_dict {K : PySem.W.Frag} {ρ : Rho} {H : Hp} {hd : Bool} {d : Option Addr} {ks : List Str} {ds : List D} (h : hd = false ∧ d = none ∨ hd = true ∧ ∃ dd gs, d = some dd ∧ H dd = some (.xd gs) ∧ gs.map (·.1) = ks ∧ Dens K ρ H ds (gs.map (·.2))) : XDict H d := by
  rcases h with ⟨_, h⟩ | ⟨_, dd, gs, h1, h2, _⟩
  · exact .inl h
  · exact .inr ⟨dd, gs, h1, h2⟩
section
variable {X : Cx} {W : WX}
theorem o_isiE {T : ITab} (ok : IOk X.K T) : OpNR X (.builtin "isinstance") (isiE T) := by
  intro ρ M H xs vs Q Rl dv h
  unfold isiE at h
  split at h
  · rename_i c hd ks ds k
    obtain ⟨v, t, rfl, d1, d2⟩ := dens_two dv
    obtain ⟨a, cv, d, rfl, cn, ha, hdd⟩ := den_exo.mp d1
    split at h
    · rename_i k0 cs
      obtain ⟨p, ts, rfl, hs, hds⟩ := den_tup.mp d2
      split at h
      · rename_i b e
        obtain ⟨C, rfl, x⟩ := isEs_cls ok cn e
        exact ⟨_, call_isVs, a, C, p, c, d, ts, b, rfl, ha, exo_dict hdd, x, hs, fun us r => isEs_kit ok cn e hds r, here Rl h (den_bl.mpr rfl)⟩
      · exact h.elim
    · split at h
      · rename_i b e
        obtain ⟨ck, e1, e2⟩ := Option.bind_eq_some_iff.mp e
        obtain ⟨C, rfl⟩ := isE_cls ok cn e2
        exact ⟨_, call_isV, a, C, c, d, t, b, rfl, ha, exo_dict hdd, (isE_kit ok cn e2).1, fun u r => (isE_kit ok cn e2).2 u (ck_val e1 d2 r), here Rl h (den_bl.mpr rfl)⟩
      · exact h.elim
  · exact o_isi ρ M H _ vs Q Rl dv h
/-- a class of the text, or a def, by its name -/
theorem s_fn {x : Str} {a : Addr} {pos : Pos} (n : PySem.W.nsIn X.K mainGlobals x = some (some (.ref a))) (hm : X.mg x = some (.ref a)) (hg : Gl X x := by rfl) (hd : (x == ("__debug__" : Str)) = false := by decide) : SE X W (.Name x pos) (mC (.fn x)) :=
  s_glob (v := .ref a) hm rfl (fun _ _ => den_fn.mpr ⟨a, n, rfl⟩) hg hd

/-! ### e.f -/
abbrev ATab := List (Str × List Str)
def AOk (K : PySem.W.Frag) (T : ATab) : Prop := ∀ p ∈ T, ∃ C, XC K p.1 C ∧ ∀ f ∈ p.2, PySem.W.findIn K (.ref C) f = some none
def hasA (T : ATab) (c f : Str) : Bool := T.any fun p => decide (p.1 = c) && p.2.any fun g => decide (g = f)
def attrX (T : ATab) (f : Str) : Op1 := fun d M => match d with
  | .exo c true ks ds => if hasA T c f = true then match (ks.zip ds).lookup f with
      | some d => .ok d M
      | none => .err
    else .err
  | _ => .err
theorem hasA_ok {K : PySem.W.Frag} {T : ATab} (ok : AOk K T) {c f : Str} {cv : Value} (cn : CN K c cv) (h : hasA T c f = true) : ∃ C, cv = .ref C ∧ XC K c C ∧ PySem.W.findIn K (.ref C) f = some none := by
  unfold hasA at h
  obtain ⟨p, h1, h2⟩ := List.any_eq_true.mp h
  rw [Bool.and_eq_true, decide_eq_true_eq] at h2
  obtain ⟨e, h3⟩ := h2
  obtain ⟨g, h4, h5⟩ := List.any_eq_true.mp h3
  rw [decide_eq_true_eq] at h5
  subst h5
  obtain ⟨C, x, q⟩ := ok p h1
  subst e
  exact ⟨C, (CN.uniq (.inl x.nm) cn).symm, x, q g h4⟩
theorem look_rel {K : PySem.W.Frag} {ρ : Rho} {H : Hp} {f : Str} {d : D} : ∀ {ds : List D} {gs : List (Str × V)}, Dens K ρ H ds (gs.map (·.2)) → ((gs.map (·.1)).zip ds).lookup f = some d → ∃ v, gs.lookup f = some v ∧ Den K ρ H d v
  | [], gs, h, e => by
    cases gs <;> cases e
  | d0 :: ds, gs, h, e => by
    obtain ⟨v, r, e1, h1, h2⟩ := dens_cons.mp h
    cases gs with
    | nil => cases e1
    | cons p gs =>
      simp only [List.map_cons, List.cons.injEq] at e1
      obtain ⟨e1, e2⟩ := e1
      subst e1 e2
      obtain ⟨k, w⟩ := p
      simp only [List.map_cons, List.zip_cons_cons, List.lookup_cons] at e ⊢
      by_cases z : (f == k) = true
      · rw [z] at e ⊢
        cases e
        exact ⟨_, rfl, h1⟩
      · rw [Bool.not_eq_true] at z
        rw [z] at e ⊢
        exact look_rel h2 e
theorem pe_xval {e : Expr} {te : TE} {pos : Pos} {n : Str} (he : PE X e te) (hb : attributeBase e n X.env (eval e X.env) = eval e X.env := by rfl) :
    PE X (.Attribute e n pos) (fun σ H Q => te σ H fun x H1 => ∃ (a C dd : Addr) (c : Str) (fs : List (Str × V)) (v : V), x = .ref a ∧ H1 a = some (ExV (.ref C) (some dd) a) ∧ XC X.K c C ∧ PySem.W.findIn X.K (.ref C) n = some none ∧ H1 dd = some (.xd fs) ∧ fs.lookup n = some v ∧ Q v H1) := by
  refine ⟨fun pins s σ H Q I h => ?_⟩
  refine attr_of hb (thn (he.run pins s σ H _ I h) fun u s1 hh => ?_)
  obtain ⟨x, H1, I1, rx, a, C, dd, c, fs, v, rfl, ha, x, hno, ea, l, q⟩ := hh
  obtain rfl : u = Value.ref a := rx
  obtain ⟨oe, vs, e1, ⟨z1, z2⟩, f⟩ := exv_at I1.hok ha
  have hx : ObjOk X.prog X.w H1 s1.heap dd (.xd fs) := I1.hok dd _ ea
  obtain ⟨mA, hns, hr⟩ := hx
  obtain ⟨od, ho, hl⟩ := lookIn_ns hns
  obtain ⟨u, hu, ru⟩ := RelO.some_of (v := v) (o := mA n) (by rw [← l]; exact hr n)
  have J : PySem.W.InstAt s1.heap a oe C (some od) := ⟨e1, z1, by unfold PySem.W.notCls; rw [f] <;> rfl, by rw [z2]; exact ho⟩
  exact HandSPX.exc_get I1.kIn J x.ga x.gt x.su (PySem.W.findObj_own x.hd hno rfl (by rw [hl, hu])) (handed_of ru) ⟨v, H1, I1.tok _, ru, q⟩
theorem s_xattr {T : ATab} (ok : AOk X.K T) {e : Expr} {pos : Pos} {n : Str} {m : ME} (he : SE X W e m) (hb : attributeBase e n X.env (eval e X.env) = eval e X.env := by rfl) : SE X W (.Attribute e n pos) (m1 (attrX T n) m) := by
  refine pe_imp (pe_xval he hb) fun σ H Q h => ?_
  refine tm_bind (f := fun d env M1 => attrX T n d M1) h fun d M1 ρ1 H1 v env R1 E1 dv h => ?_
  unfold attrX at h
  split at h
  · rename_i c ks ds
    split at h
    · rename_i hA
      split at h
      · rename_i d e
        obtain ⟨a, cv, dd0, rfl, cn, ha, hdd⟩ := den_exo.mp dv
        obtain ⟨C, rfl, x, hno⟩ := hasA_ok ok cn hA
        rcases hdd with ⟨z, _⟩ | ⟨_, dd, gs, rfl, hg, rfl, hds⟩
        · cases z
        · obtain ⟨v, l, dv2⟩ := look_rel hds e
          exact ⟨a, C, dd, c, gs, v, rfl, ha, x, hno, hg, l, here R1 h dv2⟩
      · exact h.elim
    · exact h.elim
  · exact h.elim
end
end Mi

end

section
/-! Mi, part 25: raising a class of the text by its name; which classes a clause takes. -/
namespace Mi
open PySem PySem.Spec PyProof.Rows L2
/-- an exception class of the text without an own __init__ -/
structure RC0 (K : PySem.W.Frag) (mg : Str → Option Value) (x : Str) : Prop where
  ex : ∃ (C : Addr) (B newId initId : String) (bmB : List Value), ExcBaseFacts B newId initId bmB ∧ mg x = some (.ref C) ∧ PySem.W.nsIn K mainGlobals x = some (some (.ref C)) ∧ PySem.W.excIn K C bmB newId = true ∧ PySem.W.keepIn K (.ref C) = true ∧
    PySem.W.subIn K (.ref C) (.type "BaseException") = some true ∧ PySem.W.typeIn K (.ref C) = some (.type "type")
theorem rc0 {K : PySem.W.Frag} {mg : Str → Option Value} {x : Str} {C : Addr} {B newId initId : String} {bmB : List Value} {h : Heap} (X : K.In h) (G : h.Ns mainGlobals mg) (F : ExcBaseFacts B newId initId bmB) (n : PySem.W.nsIn K mainGlobals x = some (some (.ref C))) (q : PySem.W.excIn K C bmB newId = true)
    (k : PySem.W.keepIn K (.ref C) = true) (b : PySem.W.subIn K (.ref C) (.type "BaseException") = some true) (t : PySem.W.typeIn K (.ref C) = some (.type "type")) : RC0 K mg x := ⟨C, B, newId, initId, bmB, F, PySem.W.mg_of X G n, n, q, k, b, t⟩
def mRaise0 (x : Str) (ma : MA) : MS := fun env M => andS (ma env M) env fun ds M1 => if ds.length ≤ lim then .exc x none env M1 else .err
/-- which classes are taken, of those named -/
def exT (T : List (Str × Bool)) (k : Str) : Option Bool := (T.find? fun p => decide (p.1 = k)).map (·.2)
def ExOk (K : PySem.W.Frag) (c : Value) (T : List (Str × Bool)) : Prop := ∀ p ∈ T, ∀ cv, CN K p.1 cv → PySem.W.exmOne K cv c = some p.2
theorem exT_ok {K : PySem.W.Frag} {c : Value} {T : List (Str × Bool)} (ok : ExOk K c T) : ∀ k r, exT T k = some r → ∀ cv, CN K k cv → PySem.W.exmOne K cv c = some r := fun k r e cv cn => by
  unfold exT at e
  obtain ⟨p, e1, e2⟩ := Option.map_eq_some_iff.mp e
  have h : p.1 = k := by simpa using List.find?_some e1
  subst h e2
  exact ok p (List.mem_of_find?_eq_some e1) cv cn
theorem cn_ref {K : PySem.W.Frag} {c : Str} {C : Addr} (n : PySem.W.nsIn K mainGlobals c = some (some (.ref C))) {cv : Value} (cn : CN K c cv) : cv = .ref C := CN.uniq cn (.inl n)
/-- what a clause says of a class -/
theorem exm_mk {K : PySem.W.Frag} {cls : Value} {C : Addr} {b : Bool} (h1 : PySem.W.subIn K (.ref C) (.type "BaseException") = some true) (h2 : PySem.W.isClsIn K C = true) (h3 : PySem.W.typeIn K (.ref C) = some (.type "type")) (h4 : PySem.W.subIn K cls (.ref C) = some b) : PySem.W.exmOne K cls (.ref C) = some b := by
  have z : (PySem.W.clsIn K C).isSome = true := h2
  have f1 : (PySem.W.subIn K (.ref C) (.type "BaseException") == some true) = true := by rw [h1]; rfl
  have f2 : ((PySem.W.clsIn K C).isSome && PySem.W.typeIn K (.ref C) == some (.type "type")) = true := by rw [z, h3]; rfl
  show (if (PySem.W.subIn K (.ref C) (.type "BaseException") == some true) = true then (if ((PySem.W.clsIn K C).isSome && PySem.W.typeIn K (.ref C) == some (.type "type")) = true then PySem.W.subIn K cls (.ref C) else none) else none) = some b
  rw [if_pos f1, if_pos f2]
  exact h4
section
variable {X : Cx} {W : WX} {x : Str} {p pos cpos : Pos} {e : Expr} {es : List Expr} {ma : MA}
theorem c_raiseN (tk : Takes X W) (r : RC0 X.K X.mg x) (ha : SA X W (e :: es) ma) (hc : X.calm = true := by rfl) (hg : Gl X x := by rfl) (hdb : (x == ("__debug__" : Str)) = false := by decide)
    (he : starEach (e :: es) X.env = (false, eval e X.env) :: starEach es X.env := by rfl) (hpl : (backTo cpos (starEach es X.env)).any (·.1) = false := by rfl) :
    SS X W (.Raise (some (.Call (.Name x p) (e :: es) [] cpos)) none pos) (mRaise0 x ma) := by
  obtain ⟨C, B, newId, initId, bmB, F, gC, n, q, k, b, t⟩ := r.ex
  exact c_raise0 hc tk F q gC (.inl n) k (raises_own b t) ha hg hdb he hpl
end
end Mi

end

section
set_option maxHeartbeats 4000000
namespace K01
open PySem PySem.Spec PyProof.Rows L2 Mi
/-! ### the text -/
def topS (i : Nat) : Stmt := PySem.Challenge.pw_letterbench_k01_numbers_in_bytes.main.body.getD i (.Pass ⟨0, 0, 0, 0⟩)
abbrev st_is_word : Stmt := topS 8
abbrev N_is_word : List Str := ["thing", "letter"]
theorem sc_is_word : FnScope N_is_word ["thing"] (defScope st_is_word) := ⟨rfl, rfl, rfl, by decide +kernel, rfl, by decide +kernel, by decide +kernel⟩
abbrev st_is_whole : Stmt := topS 9
abbrev N_is_whole : List Str := ["thing"]
theorem sc_is_whole : FnScope N_is_whole ["thing"] (defScope st_is_whole) := ⟨rfl, rfl, rfl, by decide +kernel, rfl, by decide +kernel, by decide +kernel⟩
abbrev st_is_between : Stmt := topS 10
abbrev N_is_between : List Str := ["thing", "least", "most"]
theorem sc_is_between : FnScope N_is_between ["thing", "least", "most"] (defScope st_is_between) := ⟨rfl, rfl, rfl, by decide +kernel, rfl, by decide +kernel, by decide +kernel⟩
abbrev st_is_byte : Stmt := topS 11
abbrev N_is_byte : List Str := ["thing"]
theorem sc_is_byte : FnScope N_is_byte ["thing"] (defScope st_is_byte) := ⟨rfl, rfl, rfl, by decide +kernel, rfl, by decide +kernel, by decide +kernel⟩
abbrev st_is_bytes : Stmt := topS 12
abbrev N_is_bytes : List Str := ["thing", "byte"]
theorem sc_is_bytes : FnScope N_is_bytes ["thing"] (defScope st_is_bytes) := ⟨rfl, rfl, rfl, by decide +kernel, rfl, by decide +kernel, by decide +kernel⟩
abbrev st_is_number : Stmt := topS 13
abbrev N_is_number : List Str := ["thing", "size"]
theorem sc_is_number : FnScope N_is_number ["thing", "size"] (defScope st_is_number) := ⟨rfl, rfl, rfl, by decide +kernel, rfl, by decide +kernel, by decide +kernel⟩
abbrev st_bytes_of : Stmt := topS 14
abbrev N_bytes_of : List Str := ["number", "size", "order", "lowest_first", "place"]
theorem sc_bytes_of : FnScope N_bytes_of ["number", "size", "order"] (defScope st_bytes_of) := ⟨rfl, rfl, rfl, by decide +kernel, rfl, by decide +kernel, by decide +kernel⟩
abbrev st_number_in : Stmt := topS 15
abbrev N_number_in : List Str := ["some", "order", "highest_first", "number", "byte"]
theorem sc_number_in : FnScope N_number_in ["some", "order"] (defScope st_number_in) := ⟨rfl, rfl, rfl, by decide +kernel, rfl, by decide +kernel, by decide +kernel⟩
abbrev st__law_left : Stmt := topS 17
abbrev N__law_left : List Str := ["_law_cell", "_law_left_here", "_law_seed", "_law_turn"]
theorem sc__law_left : FnScope N__law_left ["_law_cell"] (defScope st__law_left) := ⟨rfl, rfl, rfl, by decide +kernel, rfl, by decide +kernel, by decide +kernel⟩
abbrev st__law_digit : Stmt := topS 18
abbrev N__law_digit : List Str := ["_law_left_here", "_law_wide", "_law_found"]
theorem sc__law_digit : FnScope N__law_digit ["_law_left_here", "_law_wide"] (defScope st__law_digit) := ⟨rfl, rfl, rfl, by decide +kernel, rfl, by decide +kernel, by decide +kernel⟩
abbrev st__law_of_number : Stmt := topS 19
abbrev N__law_of_number : List Str := ["_law_worth", "_law_wide", "_law_way", "_law_found", "_law_k"]
theorem sc__law_of_number : FnScope N__law_of_number ["_law_worth", "_law_wide", "_law_way"] (defScope st__law_of_number) := ⟨rfl, rfl, rfl, by decide +kernel, rfl, by decide +kernel, by decide +kernel⟩
abbrev st__law_refused : Stmt := topS 20
abbrev N__law_refused : List Str := ["_law_item", "_law_wide", "_law_way", "e"]
theorem sc__law_refused : FnScope N__law_refused ["_law_item", "_law_wide", "_law_way"] (defScope st__law_refused) := ⟨rfl, rfl, rfl, by decide +kernel, rfl, by decide +kernel, by decide +kernel⟩
abbrev st__law_is_byte : Stmt := topS 21
abbrev N__law_is_byte : List Str := ["_law_item"]
theorem sc__law_is_byte : FnScope N__law_is_byte ["_law_item"] (defScope st__law_is_byte) := ⟨rfl, rfl, rfl, by decide +kernel, rfl, by decide +kernel, by decide +kernel⟩
abbrev st__law_items : Stmt := topS 22
abbrev N__law_items : List Str := ["_law_left_here", "_law_line", "_law_found"]
theorem sc__law_items : FnScope N__law_items ["_law_left_here", "_law_line"] (defScope st__law_items) := ⟨rfl, rfl, rfl, by decide +kernel, rfl, by decide +kernel, by decide +kernel⟩
abbrev st__law_words : Stmt := topS 23
abbrev N__law_words : List Str := ["_law_left_here", "_law_letters", "_law_one", "_law_turn"]
theorem sc__law_words : FnScope N__law_words ["_law_left_here"] (defScope st__law_words) := ⟨rfl, rfl, rfl, by decide +kernel, rfl, by decide +kernel, by decide +kernel⟩
abbrev st__law_word_so : Stmt := topS 24
abbrev N__law_word_so : List Str := ["_law_item", "_law_letters", "_law_sign"]
theorem sc__law_word_so : FnScope N__law_word_so ["_law_item"] (defScope st__law_word_so) := ⟨rfl, rfl, rfl, by decide +kernel, rfl, by decide +kernel, by decide +kernel⟩
abbrev st__law_looks_right : Stmt := topS 25
abbrev N__law_looks_right : List Str := ["_law_left_here", "_law_line", "_law_item", "_law_due", "_law_whole", "_law_told", "_law_one"]
theorem sc__law_looks_right : FnScope N__law_looks_right ["_law_left_here", "_law_line"] (defScope st__law_looks_right) := ⟨rfl, rfl, rfl, by decide +kernel, rfl, by decide +kernel, by decide +kernel⟩
abbrev st_law : Stmt := topS 26
abbrev N_law : List Str := ["_law_script", "_law_cell", "_law_left_here", "_law_wide", "_law_top", "_law_worth", "_law_way", "_law_due", "_law_item"]
theorem sc_law : FnScope N_law ["_law_script"] (defScope st_law) := ⟨rfl, rfl, rfl, by decide +kernel, rfl, by decide +kernel, by decide +kernel⟩
/-! ### tables -/
def itab : ITab := [("NoNumber", [(.inl "BenchError", true), (.inr "ValueError", true), (.inl "NoKind", false), (.inl "NoWorth", false)])]
def atab : ATab := []
def ex_NoNumber : List (Str × Bool) := [("NoNumber", true)]
/-! ### the functions -/
noncomputable def p_is_word_C0 : ME := m2 (inD false) (mVar 1) (mC (.str "abcdefghijklmnopqrstuvwxyz"))
noncomputable def b_is_word : MS := bCons (cRet (mAnd (mN isiD (aCons (mVar 0) (aCons (mC (.ty "str")) (aNil)))) (mAnd (mChain (fun i j => decide (i ≤ j)) (fun i j => decide (i ≤ j)) (mC (.int 1)) (mN lenD (aCons (mVar 0) (aNil))) (mC (.int 8))) (mN allD (aCons (mLc (mItems (mVar 0)) (gNam 1) (mYes) (p_is_word_C0) [1]) (aNil))))))
  (bNil)
noncomputable def m_is_word : MF := sealed (mFn 2 b_is_word)
theorem m_is_word_eq : m_is_word = mFn 2 b_is_word := sealed_eq _
noncomputable def b_is_whole : MS := bCons (cRet (mAnd (mN isiD (aCons (mVar 0) (aCons (mC (.ty "int")) (aNil)))) (m1 notD (mN isiD (aCons (mVar 0) (aCons (mC (.ty "bool")) (aNil)))))))
  (bNil)
noncomputable def m_is_whole : MF := sealed (mFn 1 b_is_whole)
theorem m_is_whole_eq : m_is_whole = mFn 1 b_is_whole := sealed_eq _
noncomputable def p_number_in_L0 : MS := bCons (cAsg (m2 addD (m2 mulD (mVar 3) (mC (.int 256))) (mVar 4)) (gNam 3))
  (bNil)
noncomputable def b_number_in : MS := bCons (cAsg (mVar 0) (gNam 2))
  (bCons (cIf (mB (m2 eqD (mVar 1) (mC (.str "small")))) (bCons (cAsg (m2 revD (mVar 0) (m1 negD (mC (.int 1)))) (gNam 2))
  (bNil)) (bNil))
  (bCons (cAsg (mC (.int 0)) (gNam 3))
  (bCons (cFor (mItems (mVar 2)) (gNam 4) (p_number_in_L0))
  (bCons (cRet (mVar 3))
  (bNil)))))
noncomputable def m_number_in : MF := sealed (mFn 5 b_number_in)
theorem m_number_in_eq : m_number_in = mFn 5 b_number_in := sealed_eq _
noncomputable def p_law_left_L0 : MS := bCons (cAsg (m2 modD (m2 mulD (m2 addD (m2 modD (mVar 2) (mC (.int 2147483629))) (mC (.int 30011))) (mC (.int 48271))) (mC (.int 2147483629))) (gNam 2))
  (bCons (cAsg (m2 addD (m2 modD (m2 mulD (mVar 2) (mC (.int 39373))) (mC (.int 2147483647))) (mVar 3)) (gNam 2))
  (bCons (cAsg (m2 addD (m2 mulD (mVar 1) (mC (.int 2147483629))) (mVar 2)) (gNam 1))
  (bNil)))
noncomputable def b_law_left : MS := bCons (cAsg (mN absD (aCons (mVar 0) (aNil))) (gNam 1))
  (bCons (cIf (mB (m2 ltD (mVar 1) (m2 powD (mC (.int 10)) (mC (.int 18))))) (bCons (cAsg (mVar 0) (gNam 2))
  (bCons (cFor (mI rng1D (aCons (mC (.int 40)) (aNil))) (gNam 3) (p_law_left_L0))
  (bNil))) (bNil))
  (bCons (cRet (mN celD (aCons (mVar 1) (aNil))))
  (bNil)))
noncomputable def m_law_left : MF := sealed (mFn 4 b_law_left)
theorem m_law_left_eq : m_law_left = mFn 4 b_law_left := sealed_eq _
noncomputable def b_law_digit : MS := bCons (cAsg (m2 modD (m2 ixD (mVar 0) (mC (.int 0))) (mVar 1)) (gNam 2))
  (bCons (cPut (m2 fdivD (m2 ixD (mVar 0) (mC (.int 0))) (mVar 1)) (mVar 0) (mC (.int 0)))
  (bCons (cRet (mVar 2))
  (bNil)))
noncomputable def m_law_digit : MF := sealed (mFn 3 b_law_digit)
theorem m_law_digit_eq : m_law_digit = mFn 3 b_law_digit := sealed_eq _
noncomputable def p_law_of_number_L0 : MS := bCons (cAsg (m2 addD (mN tupD (aCons (m2 andD (m2 shrD (mVar 0) (m2 mulD (mC (.int 8)) (mVar 4))) (mC (.int 255))) (aNil))) (mVar 3)) (gNam 3))
  (bNil)
noncomputable def b_law_of_number : MS := bCons (cAsg (mN tupD (aNil)) (gNam 3))
  (bCons (cFor (mI rng1D (aCons (mVar 1) (aNil))) (gNam 4) (p_law_of_number_L0))
  (bCons (cRet (mIf (mB (m2 eqD (mVar 2) (mC (.str "small")))) (m2 revD (mVar 3) (m1 negD (mC (.int 1)))) (mVar 3)))
  (bNil)))
noncomputable def m_law_of_number : MF := sealed (mFn 5 b_law_of_number)
theorem m_law_of_number_eq : m_law_of_number = mFn 5 b_law_of_number := sealed_eq _
noncomputable def b_law_is_byte : MS := bCons (cRet (mAnd (mN isiD (aCons (mVar 0) (aCons (mC (.ty "int")) (aNil)))) (mAnd (m1 notD (mN isiD (aCons (mVar 0) (aCons (mC (.ty "bool")) (aNil))))) (mChain (fun i j => decide (i ≤ j)) (fun i j => decide (i < j)) (mC (.int 0)) (mVar 0) (mC (.int 256))))))
  (bNil)
noncomputable def m_law_is_byte : MF := sealed (mFn 1 b_law_is_byte)
theorem m_law_is_byte_eq : m_law_is_byte = mFn 1 b_law_is_byte := sealed_eq _
noncomputable def p_law_word_so_C0 : ME := mVar 2
noncomputable def p_law_word_so_T1 : MT := mB (m2 (inD true) (mVar 2) (mVar 1))
noncomputable def b_law_word_so : MS := bCons (cAsg (mC (.str "abcdefghijklmnopqrstuvwxyz")) (gNam 1))
  (bCons (cRet (mAnd (mN isiD (aCons (mVar 0) (aCons (mC (.ty "str")) (aNil)))) (mAnd (mChain (fun i j => decide (i ≤ j)) (fun i j => decide (i ≤ j)) (mC (.int 1)) (mN lenD (aCons (mVar 0) (aNil))) (mC (.int 8))) (m2 eqD (mLc (mItems (mVar 0)) (gNam 2) (p_law_word_so_T1) (p_law_word_so_C0) [2]) (mN lstD (aNil))))))
  (bNil))
noncomputable def m_law_word_so : MF := sealed (mFn 3 b_law_word_so)
theorem m_law_word_so_eq : m_law_word_so = mFn 3 b_law_word_so := sealed_eq _
noncomputable def b_is_between : MS := bCons (cRet (mAnd (mCall m_is_whole 1 0 [.p 0] [] (aCons (mVar 0) (aNil)) (aNil)) (mChain (fun i j => decide (i ≤ j)) (fun i j => decide (i ≤ j)) (mVar 1) (mVar 0) (mVar 2))))
  (bNil)
noncomputable def m_is_between : MF := sealed (mFn 3 b_is_between)
theorem m_is_between_eq : m_is_between = mFn 3 b_is_between := sealed_eq _
noncomputable def b_is_number : MS := bCons (cRet (mAnd (mCall m_is_whole 1 0 [.p 0] [] (aCons (mVar 0) (aNil)) (aNil)) (mAnd (m2 geD (mVar 0) (mC (.int 0))) (m2 leD (m1 bitsD (mVar 0)) (m2 mulD (mC (.int 8)) (mVar 1))))))
  (bNil)
noncomputable def m_is_number : MF := sealed (mFn 2 b_is_number)
theorem m_is_number_eq : m_is_number = mFn 2 b_is_number := sealed_eq _
noncomputable def b_law_items : MS := bCons (cAsg (mN lstD (aCons (mVar 1) (aCons (mN listOfD (aCons (mVar 1) (aNil))) (aCons (m2 addD (mVar 1) (mN tupD (aCons (mC (.int 256)) (aNil)))) (aCons (m2 addD (mVar 1) (mN tupD (aCons (m1 negD (mC (.int 1))) (aNil)))) (aCons (m2 addD (mVar 1) (mN tupD (aCons (mC (.bl true)) (aNil)))) (aCons (mN tupD (aCons (mC .non) (aNil))) (aCons (mC .non) (aCons (mC (.int 5)) (aCons (mC (.str "ab")) (aCons (m2 addD (mVar 1) (mN tupD (aCons (mC (.str "1")) (aNil)))) (aCons (mN tupD (aNil)) (aNil))))))))))))) (gNam 2))
  (bCons (cRet (m2 addD (mVar 2) (mN lstD (aCons (mN tupD (aCons (mVar 1) (aNil))) (aCons (mDct0) (aCons (mSl (mVar 1) (mNoP) (mPart (mC (.int 1)))) (aCons (mC (.bl true)) (aCons (mC (.int 0)) (aCons (m1 negD (mC (.int 7))) (aCons (m2 powD (mC (.int 10)) (mC (.int 30))) (aCons (mN tupD (aCons (mCall m_law_digit 2 0 [.p 0, .p 1] [] (aCons (mVar 0) (aCons (mC (.int 300)) (aNil))) (aNil)) (aNil))) (aNil))))))))))))
  (bNil))
noncomputable def m_law_items : MF := sealed (mFn 3 b_law_items)
theorem m_law_items_eq : m_law_items = mFn 3 b_law_items := sealed_eq _
noncomputable def p_law_words_C0 : ME := m2 ixD (mVar 1) (mCall m_law_digit 2 0 [.p 0, .p 1] [] (aCons (mVar 0) (aCons (mC (.int 26)) (aNil))) (aNil))
noncomputable def b_law_words : MS := bCons (cAsg (mC (.str "abcdefghijklmnopqrstuvwxyz")) (gNam 1))
  (bCons (cAsg (mMt "str" joinD (mC (.str "")) (aCons (mLc (mI rng1D (aCons (m2 addD (mC (.int 1)) (mCall m_law_digit 2 0 [.p 0, .p 1] [] (aCons (mVar 0) (aCons (mC (.int 9)) (aNil))) (aNil))) (aNil))) (gNam 3) (mYes) (p_law_words_C0) [3]) (aNil))) (gNam 2))
  (bCons (cRet (mN lstD (aCons (mVar 2) (aCons (mSl (mVar 2) (mNoP) (mPart (mC (.int 8)))) (aCons (m2 addD (mVar 2) (mC (.str "A"))) (aCons (mC (.str "")) (aCons (mC (.str "a b")) (aCons (mC (.str "a1")) (aCons (mC (.str "
")) (aCons (m2 addD (mVar 2) (mC (.str "
"))) (aCons (mC (.str "abcdefgh")) (aCons (mC (.str "abcdefghi")) (aCons (mC (.str "_")) (aCons (mN tupD (aCons (mVar 2) (aNil))) (aNil)))))))))))))))
  (bNil)))
noncomputable def m_law_words : MF := sealed (mFn 4 b_law_words)
theorem m_law_words_eq : m_law_words = mFn 4 b_law_words := sealed_eq _
noncomputable def b_is_byte : MS := bCons (cRet (mCall m_is_between 3 0 [.p 0, .p 1, .p 2] [] (aCons (mVar 0) (aCons (mC (.int 0)) (aCons (mC (.int 255)) (aNil)))) (aNil)))
  (bNil)
noncomputable def m_is_byte : MF := sealed (mFn 1 b_is_byte)
theorem m_is_byte_eq : m_is_byte = mFn 1 b_is_byte := sealed_eq _
noncomputable def p_bytes_of_C0 : ME := m2 andD (m2 shrD (mVar 0) (m2 mulD (mC (.int 8)) (mVar 4))) (mC (.int 255))
noncomputable def b_bytes_of : MS := bCons (cIf (mNotT (mTru (mCall m_is_number 2 0 [.p 0, .p 1] [] (aCons (mVar 0) (aCons (mVar 1) (aNil))) (aNil)))) (bCons (mRaise0 "NoNumber" (aCons (mC (.str "not a number of this size")) (aNil)))
  (bNil)) (bNil))
  (bCons (cAsg (mN tupOfD (aCons (mLc (mI rng1D (aCons (mVar 1) (aNil))) (gNam 4) (mYes) (p_bytes_of_C0) [4]) (aNil))) (gNam 3))
  (bCons (cIf (mB (m2 eqD (mVar 2) (mC (.str "small")))) (bCons (cRet (mVar 3))
  (bNil)) (bNil))
  (bCons (cRet (m2 revD (mVar 3) (m1 negD (mC (.int 1)))))
  (bNil))))
noncomputable def m_bytes_of : MF := sealed (mFn 5 b_bytes_of)
theorem m_bytes_of_eq : m_bytes_of = mFn 5 b_bytes_of := sealed_eq _
noncomputable def p_is_bytes_C0 : ME := mCall m_is_byte 1 0 [.p 0] [] (aCons (mVar 1) (aNil)) (aNil)
noncomputable def b_is_bytes : MS := bCons (cRet (mAnd (mN isiD (aCons (mVar 0) (aCons (mC (.ty "tuple")) (aNil)))) (mN allD (aCons (mLc (mItems (mVar 0)) (gNam 1) (mYes) (p_is_bytes_C0) [1]) (aNil)))))
  (bNil)
noncomputable def m_is_bytes : MF := sealed (mFn 2 b_is_bytes)
theorem m_is_bytes_eq : m_is_bytes = mFn 2 b_is_bytes := sealed_eq _
noncomputable def p_law_refused_Y0 : MS := bCons (cExp (mCall m_bytes_of 2 1 [.p 0, .p 1, .k 0] [] (aCons (mVar 0) (aCons (mVar 1) (aNil))) (aCons (mVar 2) (aNil))))
  (bNil)
noncomputable def b_law_refused : MS := bCons (cTryAs 3 (exT ex_NoNumber) (p_law_refused_Y0) (bCons (cRet (mAnd (mN (isiE itab) (aCons (mVar 3) (aCons (mC (.fn "BenchError")) (aNil)))) (mAnd (mN (isiE itab) (aCons (mVar 3) (aCons (mC (.ty "ValueError")) (aNil)))) (m1 notD (mN (isiE itab) (aCons (mVar 3) (aCons (mN tupD (aCons (mC (.fn "NoKind")) (aCons (mC (.fn "NoWorth")) (aNil)))) (aNil))))))))
  (bNil)))
  (bCons (cRet (mC (.bl false)))
  (bNil))
noncomputable def m_law_refused : MF := sealed (mFn 4 b_law_refused)
theorem m_law_refused_eq : m_law_refused = mFn 4 b_law_refused := sealed_eq _
noncomputable def p_law_looks_right_C0 : ME := mVar 6
noncomputable def p_law_looks_right_T1 : MT := mNotT (mTru (mCall m_law_is_byte 1 0 [.p 0] [] (aCons (mVar 6) (aNil)) (aNil)))
noncomputable def p_law_looks_right_L2 : MS := bCons (cAsg (mAnd (mN isiD (aCons (mVar 2) (aCons (mC (.ty "tuple")) (aNil)))) (m2 eqD (mLc (mItems (mVar 2)) (gNam 6) (p_law_looks_right_T1) (p_law_looks_right_C0) [6]) (mN lstD (aNil)))) (gNam 3))
  (bCons (cAsg (mAnd (mN isiD (aCons (mVar 2) (aCons (mC (.ty "int")) (aNil)))) (m1 notD (mN isiD (aCons (mVar 2) (aCons (mC (.ty "bool")) (aNil)))))) (gNam 4))
  (bCons (cAsg (mN lstD (aCons (mCall m_is_bytes 1 0 [.p 0] [] (aCons (mVar 2) (aNil)) (aNil)) (aCons (mCall m_is_bytes 0 1 [.k 0] [] (aNil) (aCons (mVar 2) (aNil))) (aCons (mCall m_is_whole 1 0 [.p 0] [] (aCons (mVar 2) (aNil)) (aNil)) (aCons (mCall m_is_word 1 0 [.p 0] [] (aCons (mVar 2) (aNil)) (aNil)) (aCons (mCall m_is_word 0 1 [.k 0] [] (aNil) (aCons (mVar 2) (aNil))) (aNil))))))) (gNam 5))
  (bCons (cIf (mB (m2 neD (mN reprD (aCons (mVar 5) (aNil))) (mN reprD (aCons (mN lstD (aCons (mVar 3) (aCons (mVar 3) (aCons (mVar 4) (aCons (mCall m_law_word_so 1 0 [.p 0] [] (aCons (mVar 2) (aNil)) (aNil)) (aCons (mCall m_law_word_so 1 0 [.p 0] [] (aCons (mVar 2) (aNil)) (aNil)) (aNil))))))) (aNil))))) (bCons (cRet (mC (.bl false)))
  (bNil)) (bNil))
  (bNil))))
noncomputable def b_law_looks_right : MS := bCons (cFor (mItems (m2 addD (mCall m_law_items 2 0 [.p 0, .p 1] [] (aCons (mVar 0) (aCons (mVar 1) (aNil))) (aNil)) (mCall m_law_words 1 0 [.p 0] [] (aCons (mVar 0) (aNil)) (aNil)))) (gNam 2) (p_law_looks_right_L2))
  (bCons (cRet (m2 (isD false) (mCall m_is_whole 0 1 [.k 0] [] (aNil) (aCons (mC (.int 3)) (aNil))) (mC (.bl true))))
  (bNil))
noncomputable def m_law_looks_right : MF := sealed (mFn 7 b_law_looks_right)
theorem m_law_looks_right_eq : m_law_looks_right = mFn 7 b_law_looks_right := sealed_eq _
noncomputable def p_law_L0 : MS := bCons (cAsg (mCall m_law_of_number 3 0 [.p 0, .p 1, .p 2] [] (aCons (mVar 5) (aCons (mVar 3) (aCons (mVar 6) (aNil)))) (aNil)) (gNam 7))
  (bCons (cIf (mOrT (mB (m2 neD (mCall m_bytes_of 2 1 [.p 0, .p 1, .k 0] [] (aCons (mVar 5) (aCons (mVar 3) (aNil))) (aCons (mVar 6) (aNil))) (mVar 7))) (mB (m2 neD (mCall m_number_in 1 1 [.p 0, .k 0] [] (aCons (mVar 7) (aNil)) (aCons (mVar 6) (aNil))) (mVar 5)))) (bCons (cRet (mC (.bl false)))
  (bNil)) (bNil))
  (bCons (cIf (mOrT (mB (m2 neD (mCall m_bytes_of 0 3 [.k 2, .k 0, .k 1] [] (aNil) (aCons (mVar 3) (aCons (mVar 6) (aCons (mVar 5) (aNil))))) (mVar 7))) (mB (m2 neD (mCall m_number_in 0 2 [.k 1, .k 0] [] (aNil) (aCons (mVar 6) (aCons (mVar 7) (aNil)))) (mVar 5)))) (bCons (cRet (mC (.bl false)))
  (bNil)) (bNil))
  (bNil)))
noncomputable def p_law_L1 : MS := bCons (cFor (mItems (mN lstD (aCons (mC (.str "big")) (aCons (mC (.str "small")) (aNil))))) (gNam 6) (p_law_L0))
  (bCons (cAsg (mCall m_law_of_number 3 0 [.p 0, .p 1, .p 2] [] (aCons (mVar 5) (aCons (mVar 3) (aCons (mC (.str "big")) (aNil)))) (aNil)) (gNam 7))
  (bCons (cIf (mOrT (mB (m2 neD (mCall m_bytes_of 2 0 [.p 0, .p 1, .d 0] [.str "big"] (aCons (mVar 5) (aCons (mVar 3) (aNil))) (aNil)) (mVar 7))) (mB (m2 neD (mCall m_number_in 1 0 [.p 0, .d 0] [.str "big"] (aCons (mVar 7) (aNil)) (aNil)) (mCall m_number_in 1 1 [.p 0, .k 0] [] (aCons (m2 revD (mVar 7) (m1 negD (mC (.int 1)))) (aNil)) (aCons (mC (.str "small")) (aNil)))))) (bCons (cRet (mC (.bl false)))
  (bNil)) (bNil))
  (bNil)))
noncomputable def p_law_L2 : MS := bCons (cIf (mNotT (mTru (mCall m_law_refused 3 0 [.p 0, .p 1, .p 2] [] (aCons (mVar 8) (aCons (mVar 3) (aCons (mVar 6) (aNil)))) (aNil)))) (bCons (cRet (mC (.bl false)))
  (bNil)) (bNil))
  (bNil)
noncomputable def p_law_L3 : MS := bCons (cFor (mItems (mN lstD (aCons (mC (.str "big")) (aCons (mC (.str "small")) (aNil))))) (gNam 6) (p_law_L2))
  (bNil)
noncomputable def p_law_L4 : MS := bCons (cAsg (mCall m_law_left 1 0 [.p 0] [] (aCons (mVar 1) (aNil)) (aNil)) (gNam 2))
  (bCons (cAsg (m2 addD (mC (.int 1)) (mCall m_law_digit 2 0 [.p 0, .p 1] [] (aCons (mVar 2) (aCons (mC (.int 4)) (aNil))) (aNil))) (gNam 3))
  (bCons (cAsg (m2 shlD (mC (.int 1)) (m2 mulD (mC (.int 8)) (mVar 3))) (gNam 4))
  (bCons (cFor (mItems (mN lstD (aCons (mC (.int 0)) (aCons (mC (.int 1)) (aCons (mC (.int 255)) (aCons (m2 subD (mVar 4) (mC (.int 1))) (aCons (m2 fdivD (mVar 4) (mC (.int 2))) (aCons (mCall m_law_digit 2 0 [.p 0, .p 1] [] (aCons (mVar 2) (aCons (mVar 4) (aNil))) (aNil)) (aCons (mCall m_law_digit 2 0 [.p 0, .p 1] [] (aCons (mVar 2) (aCons (mVar 4) (aNil))) (aNil)) (aNil)))))))))) (gNam 5) (p_law_L1))
  (bCons (cFor (mItems (mN lstD (aCons (mVar 4) (aCons (m1 negD (mC (.int 1))) (aCons (m2 addD (mVar 4) (mC (.int 255))) (aCons (mC .non) (aCons (mC (.bl true)) (aCons (mC (.str "1")) (aCons (mN tupD (aCons (mC (.int 1)) (aNil))) (aCons (m2 powD (mC (.int 10)) (mC (.int 40))) (aCons (mN lstD (aCons (mC (.int 0)) (aNil))) (aNil)))))))))))) (gNam 8) (p_law_L3))
  (bCons (cIf (mNotT (mTru (mCall m_law_looks_right 2 0 [.p 0, .p 1] [] (aCons (mVar 2) (aCons (mCall m_bytes_of 2 0 [.p 0, .p 1, .d 0] [.str "big"] (aCons (mCall m_law_digit 2 0 [.p 0, .p 1] [] (aCons (mVar 2) (aCons (mVar 4) (aNil))) (aNil)) (aCons (mVar 3) (aNil))) (aNil)) (aNil))) (aNil)))) (bCons (cRet (mC (.bl false)))
  (bNil)) (bNil))
  (bNil))))))
noncomputable def b_law : MS := bCons (cFor (mItems (m2 addD (mSl (mVar 0) (mNoP) (mPart (mC (.int 20)))) (mN lstD (aCons (mC (.int 4)) (aNil))))) (gNam 1) (p_law_L4))
  (bCons (cRet (mC (.bl true)))
  (bNil))
noncomputable def m_law : MF := sealed (mFn 9 b_law)
theorem m_law_eq : m_law = mFn 9 b_law := sealed_eq _
/-! ### the derivations -/
section
variable {P : Program} {w : World} {K : PySem.W.Frag} {mg : Str → Option Value} {base : Heap}
theorem d_is_word (a : At K mg "is_word" st_is_word [] []) (z_isinstance : mg "isinstance" = none) (z_str : mg "str" = none) (z_len : mg "len" = none) {k_MOST_LETTERS : Tok} (g_MOST_LETTERS : mg "MOST_LETTERS" = some (.int 8 k_MOST_LETTERS)) (z_all : mg "all" = none) {k_LETTERS : Tok} (g_LETTERS : mg "LETTERS" = some (.str "abcdefghijklmnopqrstuvwxyz" k_LETTERS)) : Fm P w K mg base 1 "is_word" st_is_word [] [] ["thing"] m_is_word :=
  fm_seal m_is_word_eq (fm_mk (k := 0) N_is_word a sc_is_word rfl fun f cdv A outer s H E c pas => have nd := sc_is_word.nd
  b_cons (c_ret (s_and (s_blt o_isi q_isi z_isinstance (a_cons (s_var (i := 0)) (a_cons (s_tynm z_str) (a_nil)))) (s_and (s_chain op_le op_le (s_int) (s_blt o_len q_len z_len (a_cons (s_var (i := 0)) (a_nil))) (s_glob (v := V.int 8) g_MOST_LETTERS ⟨_, rfl⟩ fix_int) rfl) (s_one (s_blt (o_all rfl) q_all z_all (a_cons (s_lc rfl nd (i_seq (s_var (i := 0))) (own := [("letter", 1)]) (show BlkOk N_is_word (defScope st_is_word) _ _ from ⟨rfl, by decide +kernel, by decide +kernel, by decide +kernel, by decide +kernel⟩) (by decide) (fun s H C cl fp => g_name nd (i := 1) rfl (by first | exact .inl rfl | exact .inr rfl)) (fun s H C cl fp => p_nil) (fun s H C cl fp => s_cmp (o_in c.blk.cf) q_in (s_var (i := 1)) (s_glob (v := V.str "abcdefghijklmnopqrstuvwxyz") g_LETTERS ⟨_, rfl⟩ fix_str) rfl)) (a_nil)))))))
  (b_nil))
theorem d_is_whole (a : At K mg "is_whole" st_is_whole [] []) (z_isinstance : mg "isinstance" = none) (z_int : mg "int" = none) (z_bool : mg "bool" = none) : Fm P w K mg base 1 "is_whole" st_is_whole [] [] ["thing"] m_is_whole :=
  fm_seal m_is_whole_eq (fm_mk (k := 0) N_is_whole a sc_is_whole rfl fun f cdv A outer s H E c pas => have nd := sc_is_whole.nd
  b_cons (c_ret (s_and (s_blt o_isi q_isi z_isinstance (a_cons (s_var (i := 0)) (a_cons (s_tynm z_int) (a_nil)))) (s_one (s_not (s_blt o_isi q_isi z_isinstance (a_cons (s_var (i := 0)) (a_cons (s_tynm z_bool) (a_nil))))))))
  (b_nil))
theorem d_number_in (a : At K mg "number_in" st_number_in [] [("order", V.str "big")]) : Fm P w K mg base 1 "number_in" st_number_in [] [("order", V.str "big")] ["some", "order"] m_number_in :=
  fm_seal m_number_in_eq (fm_mk (k := 0) N_number_in a sc_number_in rfl fun f cdv A outer s H E c pas => have nd := sc_number_in.nd
  b_cons (c_set (i := 2) nd (s_var (i := 0)))
  (b_cons (c_if (t_cmp (o_eq c.cf) q_eq (s_var (i := 1)) (s_str) rfl) (b_cons (c_set (i := 2) nd (s_rev (s_var (i := 0)) (s_neg (s_int))))
  (b_nil)) (b_nil))
  (b_cons (c_set (i := 3) nd (s_int))
  (b_cons (c_for pas rfl (i_seq (s_var (i := 2))) (g_name nd (i := 4) rfl (by first | exact .inl rfl | exact .inr rfl)) (b_cons (c_set (i := 3) nd (s_bin o_add q_add (s_bin o_mul q_mul (s_var (i := 3)) (s_int)) (s_var (i := 4))))
  (b_nil)))
  (b_cons (c_ret (s_var (i := 3)))
  (b_nil))))))
theorem d__law_left (a : At K mg "_law_left" st__law_left [] []) (z_abs : mg "abs" = none) (z_range : mg "range" = none) : Fm P w K mg base 1 "_law_left" st__law_left [] [] ["_law_cell"] m_law_left :=
  fm_seal m_law_left_eq (fm_mk (k := 0) N__law_left a sc__law_left rfl fun f cdv A outer s H E c pas => have nd := sc__law_left.nd
  b_cons (c_set (i := 1) nd (s_blt o_abs q_abs z_abs (a_cons (s_var (i := 0)) (a_nil))))
  (b_cons (c_if (t_cmp (o_lt) q_cmpD (s_var (i := 1)) (s_bin o_pow q_int2 (s_int) (s_int)) rfl) (b_cons (c_set (i := 2) nd (s_var (i := 0)))
  (b_cons (c_for pas rfl (i_rng1 z_range (a_cons (s_int) (a_nil))) (g_name nd (i := 3) rfl (by first | exact .inl rfl | exact .inr rfl)) (b_cons (c_set (i := 2) nd (s_bin o_mod q_int2 (s_bin o_mul q_mul (s_bin o_add q_add (s_bin o_mod q_int2 (s_var (i := 2)) (s_int)) (s_int)) (s_int)) (s_int)))
  (b_cons (c_set (i := 2) nd (s_bin o_add q_add (s_bin o_mod q_int2 (s_bin o_mul q_mul (s_var (i := 2)) (s_int)) (s_int)) (s_var (i := 3))))
  (b_cons (c_set (i := 1) nd (s_bin o_add q_add (s_bin o_mul q_mul (s_var (i := 1)) (s_int)) (s_var (i := 2))))
  (b_nil)))))
  (b_nil))) (b_nil))
  (b_cons (c_ret (s_cel (a_cons (s_var (i := 1)) (a_nil))))
  (b_nil))))
theorem d__law_digit (a : At K mg "_law_digit" st__law_digit [] []) : Fm P w K mg base 1 "_law_digit" st__law_digit [] [] ["_law_left_here", "_law_wide"] m_law_digit :=
  fm_seal m_law_digit_eq (fm_mk (k := 0) N__law_digit a sc__law_digit rfl fun f cdv A outer s H E c pas => have nd := sc__law_digit.nd
  b_cons (c_set (i := 2) nd (s_bin o_mod q_int2 (s_ix c.cf (s_var (i := 0)) (s_int)) (s_var (i := 1))))
  (b_cons (c_put c.cf (s_bin o_fdiv q_int2 (s_ix c.cf (s_var (i := 0)) (s_int)) (s_var (i := 1))) (s_var (i := 0)) (s_int))
  (b_cons (c_ret (s_var (i := 2)))
  (b_nil))))
theorem d__law_of_number (a : At K mg "_law_of_number" st__law_of_number [] []) (z_range : mg "range" = none) : Fm P w K mg base 1 "_law_of_number" st__law_of_number [] [] ["_law_worth", "_law_wide", "_law_way"] m_law_of_number :=
  fm_seal m_law_of_number_eq (fm_mk (k := 0) N__law_of_number a sc__law_of_number rfl fun f cdv A outer s H E c pas => have nd := sc__law_of_number.nd
  b_cons (c_set (i := 3) nd (s_tup (a_nil)))
  (b_cons (c_for pas rfl (i_rng1 z_range (a_cons (s_var (i := 1)) (a_nil))) (g_name nd (i := 4) rfl (by first | exact .inl rfl | exact .inr rfl)) (b_cons (c_set (i := 3) nd (s_bin o_add q_add (s_tup (a_cons (s_bin o_and q_int2 (s_bin o_shr q_int2 (s_var (i := 0)) (s_bin o_mul q_mul (s_int) (s_var (i := 4)))) (s_int)) (a_nil))) (s_var (i := 3))))
  (b_nil)))
  (b_cons (c_ret (s_if (t_cmp (o_eq c.cf) q_eq (s_var (i := 2)) (s_str) rfl) (s_rev (s_var (i := 3)) (s_neg (s_int))) (s_var (i := 3))))
  (b_nil))))
theorem d__law_is_byte (a : At K mg "_law_is_byte" st__law_is_byte [] []) (z_isinstance : mg "isinstance" = none) (z_int : mg "int" = none) (z_bool : mg "bool" = none) : Fm P w K mg base 1 "_law_is_byte" st__law_is_byte [] [] ["_law_item"] m_law_is_byte :=
  fm_seal m_law_is_byte_eq (fm_mk (k := 0) N__law_is_byte a sc__law_is_byte rfl fun f cdv A outer s H E c pas => have nd := sc__law_is_byte.nd
  b_cons (c_ret (s_and (s_blt o_isi q_isi z_isinstance (a_cons (s_var (i := 0)) (a_cons (s_tynm z_int) (a_nil)))) (s_and (s_not (s_blt o_isi q_isi z_isinstance (a_cons (s_var (i := 0)) (a_cons (s_tynm z_bool) (a_nil))))) (s_one (s_chain op_le op_lt (s_int) (s_var (i := 0)) (s_int) rfl)))))
  (b_nil))
theorem d__law_word_so (a : At K mg "_law_word_so" st__law_word_so [] []) (z_isinstance : mg "isinstance" = none) (z_str : mg "str" = none) (z_len : mg "len" = none) : Fm P w K mg base 1 "_law_word_so" st__law_word_so [] [] ["_law_item"] m_law_word_so :=
  fm_seal m_law_word_so_eq (fm_mk (k := 0) N__law_word_so a sc__law_word_so rfl fun f cdv A outer s H E c pas => have nd := sc__law_word_so.nd
  b_cons (c_set (i := 1) nd (s_str))
  (b_cons (c_ret (s_and (s_blt o_isi q_isi z_isinstance (a_cons (s_var (i := 0)) (a_cons (s_tynm z_str) (a_nil)))) (s_and (s_chain op_le op_le (s_int) (s_blt o_len q_len z_len (a_cons (s_var (i := 0)) (a_nil))) (s_int) rfl) (s_one (s_cmp (o_eq c.cf) q_eq (s_lc rfl nd (i_seq (s_var (i := 0))) (own := [("_law_sign", 2)]) (show BlkOk N__law_word_so (defScope st__law_word_so) _ _ from ⟨rfl, by decide +kernel, by decide +kernel, by decide +kernel, by decide +kernel⟩) (by decide) (fun s H C cl fp => g_name nd (i := 2) rfl (by first | exact .inl rfl | exact .inr rfl)) (fun s H C cl fp => p_one (t_cmp (o_notIn c.blk.cf) q_in (s_var (i := 2)) (s_var (i := 1)) rfl)) (fun s H C cl fp => s_var (i := 2))) (s_lst (a_nil)) rfl)))))
  (b_nil)))
theorem d_is_between (a : At K mg "is_between" st_is_between [] []) (F_is_whole : Fm P w K mg base 1 "is_whole" st_is_whole [] [] ["thing"] m_is_whole) : Fm P w K mg base 2 "is_between" st_is_between [] [] ["thing", "least", "most"] m_is_between :=
  fm_seal m_is_between_eq (fm_mk (k := 1) N_is_between a sc_is_between rfl fun f cdv A outer s H E c pas => have nd := sc_is_between.nd
  b_cons (c_ret (s_and (s_call (cs := [.p 0]) F_is_whole c (by decide) (fun _ _ F => bd_all F fun kV doc pm an cdv ct us ws h1 h2 => by match us, h1, ws, h2 with | [u0], _, [], _ => exact ⟨[u0], rfl, rfl⟩) fixS_nil (a_cons (s_var (i := 0)) (a_nil))) (s_one (s_chain op_le op_le (s_var (i := 1)) (s_var (i := 0)) (s_var (i := 2)) rfl))))
  (b_nil))
theorem d_is_number (a : At K mg "is_number" st_is_number [] []) (F_is_whole : Fm P w K mg base 1 "is_whole" st_is_whole [] [] ["thing"] m_is_whole) : Fm P w K mg base 2 "is_number" st_is_number [] [] ["thing", "size"] m_is_number :=
  fm_seal m_is_number_eq (fm_mk (k := 1) N_is_number a sc_is_number rfl fun f cdv A outer s H E c pas => have nd := sc_is_number.nd
  b_cons (c_ret (s_and (s_call (cs := [.p 0]) F_is_whole c (by decide) (fun _ _ F => bd_all F fun kV doc pm an cdv ct us ws h1 h2 => by match us, h1, ws, h2 with | [u0], _, [], _ => exact ⟨[u0], rfl, rfl⟩) fixS_nil (a_cons (s_var (i := 0)) (a_nil))) (s_and (s_cmp (o_ge) q_cmpD (s_var (i := 0)) (s_int) rfl) (s_one (s_cmp (o_le) q_cmpD (s_bits (s_var (i := 0))) (s_bin o_mul q_mul (s_int) (s_var (i := 1))) rfl)))))
  (b_nil))
theorem d__law_items (a : At K mg "_law_items" st__law_items [] []) (z_list : mg "list" = none) (F__law_digit : Fm P w K mg base 1 "_law_digit" st__law_digit [] [] ["_law_left_here", "_law_wide"] m_law_digit) : Fm P w K mg base 2 "_law_items" st__law_items [] [] ["_law_left_here", "_law_line"] m_law_items :=
  fm_seal m_law_items_eq (fm_mk (k := 1) N__law_items a sc__law_items rfl fun f cdv A outer s H E c pas => have nd := sc__law_items.nd
  b_cons (c_set (i := 2) nd (s_lst (a_cons (s_var (i := 1)) (a_cons (s_bty o_listOf q_listOf z_list (a_cons (s_var (i := 1)) (a_nil))) (a_cons (s_bin o_add q_add (s_var (i := 1)) (s_tup (a_cons (s_int) (a_nil)))) (a_cons (s_bin o_add q_add (s_var (i := 1)) (s_tup (a_cons (s_neg (s_int)) (a_nil)))) (a_cons (s_bin o_add q_add (s_var (i := 1)) (s_tup (a_cons (s_bl) (a_nil)))) (a_cons (s_tup (a_cons (s_non) (a_nil))) (a_cons (s_non) (a_cons (s_int) (a_cons (s_str) (a_cons (s_bin o_add q_add (s_var (i := 1)) (s_tup (a_cons (s_str) (a_nil)))) (a_cons (s_tup (a_nil)) (a_nil))))))))))))))
  (b_cons (c_ret (s_bin o_add q_add (s_var (i := 2)) (s_lst (a_cons (s_tup (a_cons (s_var (i := 1)) (a_nil))) (a_cons (s_dct0) (a_cons (s_sl (s_var (i := 1)) (p_no) (p_some (s_int))) (a_cons (s_bl) (a_cons (s_int) (a_cons (s_neg (s_int)) (a_cons (s_bin o_pow q_int2 (s_int) (s_int)) (a_cons (s_tup (a_cons (s_call (cs := [.p 0, .p 1]) F__law_digit c (by decide) (fun _ _ F => bd_all F fun kV doc pm an cdv ct us ws h1 h2 => by match us, h1, ws, h2 with | [u0, u1], _, [], _ => exact ⟨[u0, u1], rfl, rfl⟩) fixS_nil (a_cons (s_var (i := 0)) (a_cons (s_int) (a_nil)))) (a_nil))) (a_nil))))))))))))
  (b_nil)))
theorem d__law_words (a : At K mg "_law_words" st__law_words [] []) (z_range : mg "range" = none) (F__law_digit : Fm P w K mg base 1 "_law_digit" st__law_digit [] [] ["_law_left_here", "_law_wide"] m_law_digit) : Fm P w K mg base 2 "_law_words" st__law_words [] [] ["_law_left_here"] m_law_words :=
  fm_seal m_law_words_eq (fm_mk (k := 1) N__law_words a sc__law_words rfl fun f cdv A outer s H E c pas => have nd := sc__law_words.nd
  b_cons (c_set (i := 1) nd (s_str))
  (b_cons (c_set (i := 2) nd (s_mt PySem.F.plainAttrs_str PySem.F.slot_str_join PySem.F.type_str_join o_joinD q_joinD (s_str) (a_cons (s_lc rfl nd (i_rng1 z_range (a_cons (s_bin o_add q_add (s_int) (s_call (cs := [.p 0, .p 1]) F__law_digit c (by decide) (fun _ _ F => bd_all F fun kV doc pm an cdv ct us ws h1 h2 => by match us, h1, ws, h2 with | [u0, u1], _, [], _ => exact ⟨[u0, u1], rfl, rfl⟩) fixS_nil (a_cons (s_var (i := 0)) (a_cons (s_int) (a_nil))))) (a_nil))) (own := [("_law_turn", 3)]) (show BlkOk N__law_words (defScope st__law_words) _ _ from ⟨rfl, by decide +kernel, by decide +kernel, by decide +kernel, by decide +kernel⟩) (by decide) (fun s H C cl fp => g_name nd (i := 3) rfl (by first | exact .inl rfl | exact .inr rfl)) (fun s H C cl fp => p_nil) (fun s H C cl fp => s_ix c.blk.cf (s_var (i := 1)) (s_call (cs := [.p 0, .p 1]) F__law_digit c.blk (by decide) (fun _ _ F => bd_all F fun kV doc pm an cdv ct us ws h1 h2 => by match us, h1, ws, h2 with | [u0, u1], _, [], _ => exact ⟨[u0, u1], rfl, rfl⟩) fixS_nil (a_cons (s_var (i := 0)) (a_cons (s_int) (a_nil)))))) (a_nil))))
  (b_cons (c_ret (s_lst (a_cons (s_var (i := 2)) (a_cons (s_sl (s_var (i := 2)) (p_no) (p_some (s_int))) (a_cons (s_bin o_add q_add (s_var (i := 2)) (s_str)) (a_cons (s_str) (a_cons (s_str) (a_cons (s_str) (a_cons (s_str) (a_cons (s_bin o_add q_add (s_var (i := 2)) (s_str)) (a_cons (s_str) (a_cons (s_str) (a_cons (s_str) (a_cons (s_tup (a_cons (s_var (i := 2)) (a_nil))) (a_nil)))))))))))))))
  (b_nil))))
theorem d_is_byte (a : At K mg "is_byte" st_is_byte [] []) (F_is_between : Fm P w K mg base 2 "is_between" st_is_between [] [] ["thing", "least", "most"] m_is_between) : Fm P w K mg base 3 "is_byte" st_is_byte [] [] ["thing"] m_is_byte :=
  fm_seal m_is_byte_eq (fm_mk (k := 2) N_is_byte a sc_is_byte rfl fun f cdv A outer s H E c pas => have nd := sc_is_byte.nd
  b_cons (c_ret (s_call (cs := [.p 0, .p 1, .p 2]) F_is_between c (by decide) (fun _ _ F => bd_all F fun kV doc pm an cdv ct us ws h1 h2 => by match us, h1, ws, h2 with | [u0, u1, u2], _, [], _ => exact ⟨[u0, u1, u2], rfl, rfl⟩) fixS_nil (a_cons (s_var (i := 0)) (a_cons (s_int) (a_cons (s_int) (a_nil))))))
  (b_nil))
theorem d_bytes_of (a : At K mg "bytes_of" st_bytes_of [] [("order", V.str "big")]) (r_NoNumber : RC0 K mg "NoNumber") (z_tuple : mg "tuple" = none) (z_range : mg "range" = none) (F_is_number : Fm P w K mg base 2 "is_number" st_is_number [] [] ["thing", "size"] m_is_number) : Fm P w K mg base 3 "bytes_of" st_bytes_of [] [("order", V.str "big")] ["number", "size", "order"] m_bytes_of :=
  fm_seal m_bytes_of_eq (fm_mk (k := 2) N_bytes_of a sc_bytes_of rfl fun f cdv A outer s H E c pas => have nd := sc_bytes_of.nd
  b_cons (c_if (t_not (t_tru (s_call (cs := [.p 0, .p 1]) F_is_number c (by decide) (fun _ _ F => bd_all F fun kV doc pm an cdv ct us ws h1 h2 => by match us, h1, ws, h2 with | [u0, u1], _, [], _ => exact ⟨[u0, u1], rfl, rfl⟩) fixS_nil (a_cons (s_var (i := 0)) (a_cons (s_var (i := 1)) (a_nil)))))) (b_cons (c_raiseN c.tk r_NoNumber (a_cons (s_str) (a_nil)))
  (b_nil)) (b_nil))
  (b_cons (c_set (i := 3) nd (s_bty o_tupOf q_tupOf z_tuple (a_cons (s_lc rfl nd (i_rng1 z_range (a_cons (s_var (i := 1)) (a_nil))) (own := [("place", 4)]) (show BlkOk N_bytes_of (defScope st_bytes_of) _ _ from ⟨rfl, by decide +kernel, by decide +kernel, by decide +kernel, by decide +kernel⟩) (by decide) (fun s H C cl fp => g_name nd (i := 4) rfl (by first | exact .inl rfl | exact .inr rfl)) (fun s H C cl fp => p_nil) (fun s H C cl fp => s_bin o_and q_int2 (s_bin o_shr q_int2 (s_var (i := 0)) (s_bin o_mul q_mul (s_int) (s_var (i := 4)))) (s_int))) (a_nil))))
  (b_cons (c_if (t_cmp (o_eq c.cf) q_eq (s_var (i := 2)) (s_str) rfl) (b_cons (c_ret (s_var (i := 3)))
  (b_nil)) (b_nil))
  (b_cons (c_ret (s_rev (s_var (i := 3)) (s_neg (s_int))))
  (b_nil)))))
theorem d_is_bytes (a : At K mg "is_bytes" st_is_bytes [] []) (z_isinstance : mg "isinstance" = none) (z_tuple : mg "tuple" = none) (z_all : mg "all" = none) (F_is_byte : Fm P w K mg base 3 "is_byte" st_is_byte [] [] ["thing"] m_is_byte) : Fm P w K mg base 4 "is_bytes" st_is_bytes [] [] ["thing"] m_is_bytes :=
  fm_seal m_is_bytes_eq (fm_mk (k := 3) N_is_bytes a sc_is_bytes rfl fun f cdv A outer s H E c pas => have nd := sc_is_bytes.nd
  b_cons (c_ret (s_and (s_blt o_isi q_isi z_isinstance (a_cons (s_var (i := 0)) (a_cons (s_tynm z_tuple) (a_nil)))) (s_one (s_blt (o_all rfl) q_all z_all (a_cons (s_lc rfl nd (i_seq (s_var (i := 0))) (own := [("byte", 1)]) (show BlkOk N_is_bytes (defScope st_is_bytes) _ _ from ⟨rfl, by decide +kernel, by decide +kernel, by decide +kernel, by decide +kernel⟩) (by decide) (fun s H C cl fp => g_name nd (i := 1) rfl (by first | exact .inl rfl | exact .inr rfl)) (fun s H C cl fp => p_nil) (fun s H C cl fp => s_call (cs := [.p 0]) F_is_byte c.blk (by decide) (fun _ _ F => bd_all F fun kV doc pm an cdv ct us ws h1 h2 => by match us, h1, ws, h2 with | [u0], _, [], _ => exact ⟨[u0], rfl, rfl⟩) fixS_nil (a_cons (s_var (i := 1)) (a_nil)))) (a_nil))))))
  (b_nil))
theorem d__law_refused (a : At K mg "_law_refused" st__law_refused [] []) {p_NoNumber : Addr} (n_NoNumber : PySem.W.nsIn K mainGlobals "NoNumber" = some (some (.ref p_NoNumber))) (g_NoNumber : mg "NoNumber" = some (.ref p_NoNumber)) (x_NoNumber : ExOk K (.ref p_NoNumber) ex_NoNumber) (z_isinstance : mg "isinstance" = none) (ok_I : IOk K itab) {p_BenchError : Addr} (n_BenchError : PySem.W.nsIn K mainGlobals "BenchError" = some (some (.ref p_BenchError))) (g_BenchError : mg "BenchError" = some (.ref p_BenchError)) (z_ValueError : mg "ValueError" = none) {p_NoKind : Addr} (n_NoKind : PySem.W.nsIn K mainGlobals "NoKind" = some (some (.ref p_NoKind))) (g_NoKind : mg "NoKind" = some (.ref p_NoKind)) {p_NoWorth : Addr} (n_NoWorth : PySem.W.nsIn K mainGlobals "NoWorth" = some (some (.ref p_NoWorth))) (g_NoWorth : mg "NoWorth" = some (.ref p_NoWorth)) (F_bytes_of : Fm P w K mg base 3 "bytes_of" st_bytes_of [] [("order", V.str "big")] ["number", "size", "order"] m_bytes_of) : Fm P w K mg base 4 "_law_refused" st__law_refused [] [] ["_law_item", "_law_wide", "_law_way"] m_law_refused :=
  fm_seal m_law_refused_eq (fm_mk (k := 3) N__law_refused a sc__law_refused rfl fun f cdv A outer s H E c pas => have nd := sc__law_refused.nd
  b_cons (c_try_as (i := 3) (ex := exT ex_NoNumber) rfl rfl rfl nd rfl rfl ⟨rfl, by decide, .inl g_NoNumber⟩ c.tk (exT_ok x_NoNumber) (fun W' pn xe tk' pas' => have c := c.tr tk'; have pas := pas'; b_cons (c_exp (s_callK (cs := [.p 0, .p 1, .k 0]) (ks := ["order"]) F_bytes_of c (by decide) (fun _ _ F => bd_all F fun kV doc pm an cdv ct us ws h1 h2 => by match us, h1, ws, h2 with | [u0, u1], _, [w0], _ => exact ⟨[u0, u1, w0], rfl, rfl⟩) fixS_nil (a_cons (s_var (i := 0)) (a_cons (s_var (i := 1)) (a_nil))) (k_cons (s_var (i := 2)) (k_nil))))
  (b_nil)) (fun a pn => b_cons (c_ret (s_and (s_blt (o_isiE ok_I) q_isiE z_isinstance (a_cons (s_var (i := 3)) (a_cons (s_fn n_BenchError g_BenchError) (a_nil)))) (s_and (s_blt (o_isiE ok_I) q_isiE z_isinstance (a_cons (s_var (i := 3)) (a_cons (s_tynm z_ValueError) (a_nil)))) (s_one (s_not (s_blt (o_isiE ok_I) q_isiE z_isinstance (a_cons (s_var (i := 3)) (a_cons (s_tup (a_cons (s_fn n_NoKind g_NoKind) (a_cons (s_fn n_NoWorth g_NoWorth) (a_nil)))) (a_nil)))))))))
  (b_nil)))
  (b_cons (c_ret (s_bl))
  (b_nil)))
theorem d__law_looks_right (a : At K mg "_law_looks_right" st__law_looks_right [] []) (z_isinstance : mg "isinstance" = none) (z_tuple : mg "tuple" = none) (z_int : mg "int" = none) (z_bool : mg "bool" = none) (z_repr : mg "repr" = none) (F__law_items : Fm P w K mg base 2 "_law_items" st__law_items [] [] ["_law_left_here", "_law_line"] m_law_items) (F__law_words : Fm P w K mg base 2 "_law_words" st__law_words [] [] ["_law_left_here"] m_law_words) (F__law_is_byte : Fm P w K mg base 1 "_law_is_byte" st__law_is_byte [] [] ["_law_item"] m_law_is_byte) (F_is_bytes : Fm P w K mg base 4 "is_bytes" st_is_bytes [] [] ["thing"] m_is_bytes) (F_is_whole : Fm P w K mg base 1 "is_whole" st_is_whole [] [] ["thing"] m_is_whole) (F_is_word : Fm P w K mg base 1 "is_word" st_is_word [] [] ["thing"] m_is_word) (F__law_word_so : Fm P w K mg base 1 "_law_word_so" st__law_word_so [] [] ["_law_item"] m_law_word_so) : Fm P w K mg base 5 "_law_looks_right" st__law_looks_right [] [] ["_law_left_here", "_law_line"] m_law_looks_right :=
  fm_seal m_law_looks_right_eq (fm_mk (k := 4) N__law_looks_right a sc__law_looks_right rfl fun f cdv A outer s H E c pas => have nd := sc__law_looks_right.nd
  b_cons (c_for pas rfl (i_seq (s_bin o_add q_add (s_call (cs := [.p 0, .p 1]) F__law_items c (by decide) (fun _ _ F => bd_all F fun kV doc pm an cdv ct us ws h1 h2 => by match us, h1, ws, h2 with | [u0, u1], _, [], _ => exact ⟨[u0, u1], rfl, rfl⟩) fixS_nil (a_cons (s_var (i := 0)) (a_cons (s_var (i := 1)) (a_nil)))) (s_call (cs := [.p 0]) F__law_words c (by decide) (fun _ _ F => bd_all F fun kV doc pm an cdv ct us ws h1 h2 => by match us, h1, ws, h2 with | [u0], _, [], _ => exact ⟨[u0], rfl, rfl⟩) fixS_nil (a_cons (s_var (i := 0)) (a_nil))))) (g_name nd (i := 2) rfl (by first | exact .inl rfl | exact .inr rfl)) (b_cons (c_set (i := 3) nd (s_and (s_blt o_isi q_isi z_isinstance (a_cons (s_var (i := 2)) (a_cons (s_tynm z_tuple) (a_nil)))) (s_one (s_cmp (o_eq c.cf) q_eq (s_lc rfl nd (i_seq (s_var (i := 2))) (own := [("_law_one", 6)]) (show BlkOk N__law_looks_right (defScope st__law_looks_right) _ _ from ⟨rfl, by decide +kernel, by decide +kernel, by decide +kernel, by decide +kernel⟩) (by decide) (fun s H C cl fp => g_name nd (i := 6) rfl (by first | exact .inl rfl | exact .inr rfl)) (fun s H C cl fp => p_one (t_not (t_tru (s_call (cs := [.p 0]) F__law_is_byte c.blk (by decide) (fun _ _ F => bd_all F fun kV doc pm an cdv ct us ws h1 h2 => by match us, h1, ws, h2 with | [u0], _, [], _ => exact ⟨[u0], rfl, rfl⟩) fixS_nil (a_cons (s_var (i := 6)) (a_nil)))))) (fun s H C cl fp => s_var (i := 6))) (s_lst (a_nil)) rfl))))
  (b_cons (c_set (i := 4) nd (s_and (s_blt o_isi q_isi z_isinstance (a_cons (s_var (i := 2)) (a_cons (s_tynm z_int) (a_nil)))) (s_one (s_not (s_blt o_isi q_isi z_isinstance (a_cons (s_var (i := 2)) (a_cons (s_tynm z_bool) (a_nil))))))))
  (b_cons (c_set (i := 5) nd (s_lst (a_cons (s_call (cs := [.p 0]) F_is_bytes c (by decide) (fun _ _ F => bd_all F fun kV doc pm an cdv ct us ws h1 h2 => by match us, h1, ws, h2 with | [u0], _, [], _ => exact ⟨[u0], rfl, rfl⟩) fixS_nil (a_cons (s_var (i := 2)) (a_nil))) (a_cons (s_callK0 (cs := [.k 0]) (ks := ["thing"]) F_is_bytes c (by decide) (fun _ _ F => bd_all F fun kV doc pm an cdv ct us ws h1 h2 => by match us, h1, ws, h2 with | [], _, [w0], _ => exact ⟨[w0], rfl, rfl⟩) fixS_nil (k_cons (s_var (i := 2)) (k_nil))) (a_cons (s_call (cs := [.p 0]) F_is_whole c (by decide) (fun _ _ F => bd_all F fun kV doc pm an cdv ct us ws h1 h2 => by match us, h1, ws, h2 with | [u0], _, [], _ => exact ⟨[u0], rfl, rfl⟩) fixS_nil (a_cons (s_var (i := 2)) (a_nil))) (a_cons (s_call (cs := [.p 0]) F_is_word c (by decide) (fun _ _ F => bd_all F fun kV doc pm an cdv ct us ws h1 h2 => by match us, h1, ws, h2 with | [u0], _, [], _ => exact ⟨[u0], rfl, rfl⟩) fixS_nil (a_cons (s_var (i := 2)) (a_nil))) (a_cons (s_callK0 (cs := [.k 0]) (ks := ["thing"]) F_is_word c (by decide) (fun _ _ F => bd_all F fun kV doc pm an cdv ct us ws h1 h2 => by match us, h1, ws, h2 with | [], _, [w0], _ => exact ⟨[w0], rfl, rfl⟩) fixS_nil (k_cons (s_var (i := 2)) (k_nil))) (a_nil))))))))
  (b_cons (c_if (t_cmp (o_ne c.cf) q_ne (s_blt (o_repr c.cf) q_repr z_repr (a_cons (s_var (i := 5)) (a_nil))) (s_blt (o_repr c.cf) q_repr z_repr (a_cons (s_lst (a_cons (s_var (i := 3)) (a_cons (s_var (i := 3)) (a_cons (s_var (i := 4)) (a_cons (s_call (cs := [.p 0]) F__law_word_so c (by decide) (fun _ _ F => bd_all F fun kV doc pm an cdv ct us ws h1 h2 => by match us, h1, ws, h2 with | [u0], _, [], _ => exact ⟨[u0], rfl, rfl⟩) fixS_nil (a_cons (s_var (i := 2)) (a_nil))) (a_cons (s_call (cs := [.p 0]) F__law_word_so c (by decide) (fun _ _ F => bd_all F fun kV doc pm an cdv ct us ws h1 h2 => by match us, h1, ws, h2 with | [u0], _, [], _ => exact ⟨[u0], rfl, rfl⟩) fixS_nil (a_cons (s_var (i := 2)) (a_nil))) (a_nil))))))) (a_nil))) rfl) (b_cons (c_ret (s_bl))
  (b_nil)) (b_nil))
  (b_nil))))))
  (b_cons (c_ret (s_cmp (o_is) q_is (s_callK0 (cs := [.k 0]) (ks := ["thing"]) F_is_whole c (by decide) (fun _ _ F => bd_all F fun kV doc pm an cdv ct us ws h1 h2 => by match us, h1, ws, h2 with | [], _, [w0], _ => exact ⟨[w0], rfl, rfl⟩) fixS_nil (k_cons (s_int) (k_nil))) (s_bl) rfl))
  (b_nil)))
theorem d_law (a : At K mg "law" st_law [] []) (F__law_left : Fm P w K mg base 1 "_law_left" st__law_left [] [] ["_law_cell"] m_law_left) (F__law_digit : Fm P w K mg base 1 "_law_digit" st__law_digit [] [] ["_law_left_here", "_law_wide"] m_law_digit) (F__law_of_number : Fm P w K mg base 1 "_law_of_number" st__law_of_number [] [] ["_law_worth", "_law_wide", "_law_way"] m_law_of_number) (F_bytes_of : Fm P w K mg base 3 "bytes_of" st_bytes_of [] [("order", V.str "big")] ["number", "size", "order"] m_bytes_of) (F_number_in : Fm P w K mg base 1 "number_in" st_number_in [] [("order", V.str "big")] ["some", "order"] m_number_in) (F__law_refused : Fm P w K mg base 4 "_law_refused" st__law_refused [] [] ["_law_item", "_law_wide", "_law_way"] m_law_refused) (F__law_looks_right : Fm P w K mg base 5 "_law_looks_right" st__law_looks_right [] [] ["_law_left_here", "_law_line"] m_law_looks_right) : Fm P w K mg base 6 "law" st_law [] [] ["_law_script"] m_law :=
  fm_seal m_law_eq (fm_mk (k := 5) N_law a sc_law rfl fun f cdv A outer s H E c pas => have nd := sc_law.nd
  b_cons (c_for pas rfl (i_seq (s_bin o_add q_add (s_sl (s_var (i := 0)) (p_no) (p_some (s_int))) (s_lst (a_cons (s_int) (a_nil))))) (g_name nd (i := 1) rfl (by first | exact .inl rfl | exact .inr rfl)) (b_cons (c_set (i := 2) nd (s_call (cs := [.p 0]) F__law_left c (by decide) (fun _ _ F => bd_all F fun kV doc pm an cdv ct us ws h1 h2 => by match us, h1, ws, h2 with | [u0], _, [], _ => exact ⟨[u0], rfl, rfl⟩) fixS_nil (a_cons (s_var (i := 1)) (a_nil))))
  (b_cons (c_set (i := 3) nd (s_bin o_add q_add (s_int) (s_call (cs := [.p 0, .p 1]) F__law_digit c (by decide) (fun _ _ F => bd_all F fun kV doc pm an cdv ct us ws h1 h2 => by match us, h1, ws, h2 with | [u0, u1], _, [], _ => exact ⟨[u0, u1], rfl, rfl⟩) fixS_nil (a_cons (s_var (i := 2)) (a_cons (s_int) (a_nil))))))
  (b_cons (c_set (i := 4) nd (s_bin o_shl q_int2 (s_int) (s_bin o_mul q_mul (s_int) (s_var (i := 3)))))
  (b_cons (c_for pas rfl (i_seq (s_lst (a_cons (s_int) (a_cons (s_int) (a_cons (s_int) (a_cons (s_bin o_sub q_int2 (s_var (i := 4)) (s_int)) (a_cons (s_bin o_fdiv q_int2 (s_var (i := 4)) (s_int)) (a_cons (s_call (cs := [.p 0, .p 1]) F__law_digit c (by decide) (fun _ _ F => bd_all F fun kV doc pm an cdv ct us ws h1 h2 => by match us, h1, ws, h2 with | [u0, u1], _, [], _ => exact ⟨[u0, u1], rfl, rfl⟩) fixS_nil (a_cons (s_var (i := 2)) (a_cons (s_var (i := 4)) (a_nil)))) (a_cons (s_call (cs := [.p 0, .p 1]) F__law_digit c (by decide) (fun _ _ F => bd_all F fun kV doc pm an cdv ct us ws h1 h2 => by match us, h1, ws, h2 with | [u0, u1], _, [], _ => exact ⟨[u0, u1], rfl, rfl⟩) fixS_nil (a_cons (s_var (i := 2)) (a_cons (s_var (i := 4)) (a_nil)))) (a_nil)))))))))) (g_name nd (i := 5) rfl (by first | exact .inl rfl | exact .inr rfl)) (b_cons (c_for pas rfl (i_seq (s_lst (a_cons (s_str) (a_cons (s_str) (a_nil))))) (g_name nd (i := 6) rfl (by first | exact .inl rfl | exact .inr rfl)) (b_cons (c_set (i := 7) nd (s_call (cs := [.p 0, .p 1, .p 2]) F__law_of_number c (by decide) (fun _ _ F => bd_all F fun kV doc pm an cdv ct us ws h1 h2 => by match us, h1, ws, h2 with | [u0, u1, u2], _, [], _ => exact ⟨[u0, u1, u2], rfl, rfl⟩) fixS_nil (a_cons (s_var (i := 5)) (a_cons (s_var (i := 3)) (a_cons (s_var (i := 6)) (a_nil))))))
  (b_cons (c_if (t_w (w_or (t_cmp (o_ne c.cf) q_ne (s_callK (cs := [.p 0, .p 1, .k 0]) (ks := ["order"]) F_bytes_of c (by decide) (fun _ _ F => bd_all F fun kV doc pm an cdv ct us ws h1 h2 => by match us, h1, ws, h2 with | [u0, u1], _, [w0], _ => exact ⟨[u0, u1, w0], rfl, rfl⟩) fixS_nil (a_cons (s_var (i := 5)) (a_cons (s_var (i := 3)) (a_nil))) (k_cons (s_var (i := 6)) (k_nil))) (s_var (i := 7)) rfl) (w_or1 (t_cmp (o_ne c.cf) q_ne (s_callK (cs := [.p 0, .k 0]) (ks := ["order"]) F_number_in c (by decide) (fun _ _ F => bd_all F fun kV doc pm an cdv ct us ws h1 h2 => by match us, h1, ws, h2 with | [u0], _, [w0], _ => exact ⟨[u0, w0], rfl, rfl⟩) fixS_nil (a_cons (s_var (i := 7)) (a_nil)) (k_cons (s_var (i := 6)) (k_nil))) (s_var (i := 5)) rfl)))) (b_cons (c_ret (s_bl))
  (b_nil)) (b_nil))
  (b_cons (c_if (t_w (w_or (t_cmp (o_ne c.cf) q_ne (s_callK0 (cs := [.k 2, .k 0, .k 1]) (ks := ["size", "order", "number"]) F_bytes_of c (by decide) (fun _ _ F => bd_all F fun kV doc pm an cdv ct us ws h1 h2 => by match us, h1, ws, h2 with | [], _, [w0, w1, w2], _ => exact ⟨[w2, w0, w1], rfl, rfl⟩) fixS_nil (k_cons (s_var (i := 3)) (k_cons (s_var (i := 6)) (k_cons (s_var (i := 5)) (k_nil))))) (s_var (i := 7)) rfl) (w_or1 (t_cmp (o_ne c.cf) q_ne (s_callK0 (cs := [.k 1, .k 0]) (ks := ["order", "some"]) F_number_in c (by decide) (fun _ _ F => bd_all F fun kV doc pm an cdv ct us ws h1 h2 => by match us, h1, ws, h2 with | [], _, [w0, w1], _ => exact ⟨[w1, w0], rfl, rfl⟩) fixS_nil (k_cons (s_var (i := 6)) (k_cons (s_var (i := 7)) (k_nil)))) (s_var (i := 5)) rfl)))) (b_cons (c_ret (s_bl))
  (b_nil)) (b_nil))
  (b_nil)))))
  (b_cons (c_set (i := 7) nd (s_call (cs := [.p 0, .p 1, .p 2]) F__law_of_number c (by decide) (fun _ _ F => bd_all F fun kV doc pm an cdv ct us ws h1 h2 => by match us, h1, ws, h2 with | [u0, u1, u2], _, [], _ => exact ⟨[u0, u1, u2], rfl, rfl⟩) fixS_nil (a_cons (s_var (i := 5)) (a_cons (s_var (i := 3)) (a_cons (s_str) (a_nil))))))
  (b_cons (c_if (t_w (w_or (t_cmp (o_ne c.cf) q_ne (s_call (cs := [.p 0, .p 1, .d 0]) F_bytes_of c (by decide) (fun _ _ F => bd_kw F [("order", V.str "big")] (by simp) (by simp) fun Dk doc pm an cdv ct us ws mv h1 h2 h3 => by match us, h1, ws, h2, mv, h3 with | [u0, u1], _, [], _, [v0], _ => exact ⟨[u0, u1, v0], rfl, ⟨_, _, _, _, _, _, rfl, rfl, rfl⟩⟩) (fixS_cons fix_str fixS_nil) (a_cons (s_var (i := 5)) (a_cons (s_var (i := 3)) (a_nil)))) (s_var (i := 7)) rfl) (w_or1 (t_cmp (o_ne c.cf) q_ne (s_call (cs := [.p 0, .d 0]) F_number_in c (by decide) (fun _ _ F => bd_kw F [("order", V.str "big")] (by simp) (by simp) fun Dk doc pm an cdv ct us ws mv h1 h2 h3 => by match us, h1, ws, h2, mv, h3 with | [u0], _, [], _, [v0], _ => exact ⟨[u0, v0], rfl, ⟨_, _, _, _, _, _, rfl, rfl, rfl⟩⟩) (fixS_cons fix_str fixS_nil) (a_cons (s_var (i := 7)) (a_nil))) (s_callK (cs := [.p 0, .k 0]) (ks := ["order"]) F_number_in c (by decide) (fun _ _ F => bd_all F fun kV doc pm an cdv ct us ws h1 h2 => by match us, h1, ws, h2 with | [u0], _, [w0], _ => exact ⟨[u0, w0], rfl, rfl⟩) fixS_nil (a_cons (s_rev (s_var (i := 7)) (s_neg (s_int))) (a_nil)) (k_cons (s_str) (k_nil))) rfl)))) (b_cons (c_ret (s_bl))
  (b_nil)) (b_nil))
  (b_nil)))))
  (b_cons (c_for pas rfl (i_seq (s_lst (a_cons (s_var (i := 4)) (a_cons (s_neg (s_int)) (a_cons (s_bin o_add q_add (s_var (i := 4)) (s_int)) (a_cons (s_non) (a_cons (s_bl) (a_cons (s_str) (a_cons (s_tup (a_cons (s_int) (a_nil))) (a_cons (s_bin o_pow q_int2 (s_int) (s_int)) (a_cons (s_lst (a_cons (s_int) (a_nil))) (a_nil)))))))))))) (g_name nd (i := 8) rfl (by first | exact .inl rfl | exact .inr rfl)) (b_cons (c_for pas rfl (i_seq (s_lst (a_cons (s_str) (a_cons (s_str) (a_nil))))) (g_name nd (i := 6) rfl (by first | exact .inl rfl | exact .inr rfl)) (b_cons (c_if (t_not (t_tru (s_call (cs := [.p 0, .p 1, .p 2]) F__law_refused c (by decide) (fun _ _ F => bd_all F fun kV doc pm an cdv ct us ws h1 h2 => by match us, h1, ws, h2 with | [u0, u1, u2], _, [], _ => exact ⟨[u0, u1, u2], rfl, rfl⟩) fixS_nil (a_cons (s_var (i := 8)) (a_cons (s_var (i := 3)) (a_cons (s_var (i := 6)) (a_nil))))))) (b_cons (c_ret (s_bl))
  (b_nil)) (b_nil))
  (b_nil)))
  (b_nil)))
  (b_cons (c_if (t_not (t_tru (s_call (cs := [.p 0, .p 1]) F__law_looks_right c (by decide) (fun _ _ F => bd_all F fun kV doc pm an cdv ct us ws h1 h2 => by match us, h1, ws, h2 with | [u0, u1], _, [], _ => exact ⟨[u0, u1], rfl, rfl⟩) fixS_nil (a_cons (s_var (i := 2)) (a_cons (s_call (cs := [.p 0, .p 1, .d 0]) F_bytes_of c (by decide) (fun _ _ F => bd_kw F [("order", V.str "big")] (by simp) (by simp) fun Dk doc pm an cdv ct us ws mv h1 h2 h3 => by match us, h1, ws, h2, mv, h3 with | [u0, u1], _, [], _, [v0], _ => exact ⟨[u0, u1, v0], rfl, ⟨_, _, _, _, _, _, rfl, rfl, rfl⟩⟩) (fixS_cons fix_str fixS_nil) (a_cons (s_call (cs := [.p 0, .p 1]) F__law_digit c (by decide) (fun _ _ F => bd_all F fun kV doc pm an cdv ct us ws h1 h2 => by match us, h1, ws, h2 with | [u0, u1], _, [], _ => exact ⟨[u0, u1], rfl, rfl⟩) fixS_nil (a_cons (s_var (i := 2)) (a_cons (s_var (i := 4)) (a_nil)))) (a_cons (s_var (i := 3)) (a_nil)))) (a_nil)))))) (b_cons (c_ret (s_bl))
  (b_nil)) (b_nil))
  (b_nil))))))))
  (b_cons (c_ret (s_bl))
  (b_nil)))
end

end K01
end

section
set_option maxHeartbeats 4000000
namespace K01
open PySem PySem.Spec PyProof.Rows L2 Mi
theorem mul_ok {i j : Int} {M : MH} {a b : Nat} (h1 : i.natAbs < 2 ^ a) (h2 : j.natAbs < 2 ^ b) (ha : 0 < a) (hb : 0 < b) (h : a + b < 1000000) : mulD (.int i) (.int j) M = .ok (.int (i * j)) M := by
  have g1 := lg_of h1 ha
  have g2 := lg_of h2 hb
  unfold mulD
  simp only
  rw [if_pos (by omega)]
theorem left_step {c l s : Int} {i : Nat} (hi : i < 40) (h0 : 0 ≤ l) (h1 : l < 2 ^ (60 + 32 * i)) (o : Option D) (M : MH) : ∃ l' s' : Int, p_law_left_L0 [some (.int c), some (.int l), some (.int s), some (.int (0 + i))] M = .nx [some (.int c), some (.int l'), some (.int s'), some (.int (0 + i))] M ∧ 0 ≤ l' ∧ l' < 2 ^ (60 + 32 * (i + 1)) := by
  have a0 : 0 ≤ s % 2147483629 := Int.emod_nonneg _ (by decide)
  have a1 : s % 2147483629 < 2147483629 := Int.emod_lt_of_pos _ (by decide)
  generalize ha : s % 2147483629 = a at a0 a1
  have p32 : (2 : Nat) ^ 32 = 4294967296 := by decide +kernel
  have p17 : (2 : Nat) ^ 17 = 131072 := by decide +kernel
  have m1' : mulD (.int (a + 30011)) (.int 48271) M = .ok (.int ((a + 30011) * 48271)) M := mul_ok (a := 32) (b := 17) (by omega) (by decide) (by decide) (by decide) (by decide)
  have b0 : 0 ≤ (a + 30011) * 48271 % 2147483629 := Int.emod_nonneg _ (by decide)
  have b1 : (a + 30011) * 48271 % 2147483629 < 2147483629 := Int.emod_lt_of_pos _ (by decide)
  generalize hb : (a + 30011) * 48271 % 2147483629 = b at b0 b1
  have m2' : mulD (.int b) (.int 39373) M = .ok (.int (b * 39373)) M := mul_ok (a := 32) (b := 17) (by omega) (by decide) (by decide) (by decide) (by decide)
  have c0 : 0 ≤ b * 39373 % 2147483647 := Int.emod_nonneg _ (by decide)
  have c1 : b * 39373 % 2147483647 < 2147483647 := Int.emod_lt_of_pos _ (by decide)
  generalize hc : b * 39373 % 2147483647 = e at c0 c1
  have e2 : (2 : Int) ^ (60 + 32 * i) = ((2 ^ (60 + 32 * i) : Nat) : Int) := by simp
  have hx : l.natAbs < 2 ^ (60 + 32 * i) := by
    rw [e2] at h1
    omega
  have m3' : mulD (.int l) (.int 2147483629) M = .ok (.int (l * 2147483629)) M := mul_ok (a := 60 + 32 * i) (b := 32) hx (by rw [p32]; decide) (by omega) (by decide) (by omega)
  refine ⟨l * 2147483629 + (e + (0 + i)), e + (0 + i), ?_, by omega, ?_⟩
  · simp [p_law_left_L0, addD, modD, int2, ha, m1', hb, m2', hc, m3', mFn, bCons, bNil, cRet, cAsg, cIf, cErr, cFor, mVar, mC, m1, m2, mN, aNil, aCons, mCall, callM, picks, pick, mAnd, mOr, mAndT, mOrT, mNotT, mB, mTru, mIf, mItems, itemsD, mI, truD, notD, eqD, neD, likeD, isStr, flat, flats, cmpD, isiD, tyName, gNam, gTupD, gsCons, gsNil, lim_n]
  · have e3 : (2 : Int) ^ (60 + 32 * (i + 1)) = 2 ^ (60 + 32 * i) * 4294967296 := by
      rw [show 60 + 32 * (i + 1) = (60 + 32 * i) + 32 by omega, Int.pow_add]
      rw [show (2 : Int) ^ 32 = 4294967296 by decide +kernel]
    have e4 : (2 : Int) ≤ 2 ^ (60 + 32 * i) := by
      rw [e2]
      have : 2 ^ 1 ≤ 2 ^ (60 + 32 * i) := Nat.pow_le_pow_right (by decide) (by omega)
      omega
    rw [e3]
    generalize (2 : Int) ^ (60 + 32 * i) = X at h1 e4 ⊢
    omega
theorem left_big (c K : Int) (M : MH) (pe : ME) (b : MS) (pw : ∀ (env : En) (M : MH), pe env M = .ok (.int K) M) (h : ¬ (c.natAbs : Int) < K) :
    mFn 4 (bCons (cAsg (mN absD (aCons (mVar 0) (aNil))) (gNam 1)) (bCons (cIf (mB (m2 ltD (mVar 1) pe)) b (bNil)) (bCons (cRet (mN celD (aCons (mVar 1) (aNil)))) (bNil)))) [.int c] M = .ok (.ref M.length) (M ++ [.lst [.int c.natAbs]]) := by
  simp [absD, pw, h, celD, mFn, bCons, bNil, cRet, cAsg, cIf, cErr, cFor, mVar, mC, m1, m2, mN, aNil, aCons, mCall, callM, picks, pick, mAnd, mOr, mAndT, mOrT, mNotT, mB, mTru, mIf, mItems, itemsD, mI, truD, notD, eqD, neD, likeD, isStr, flat, flats, cmpD, isiD, tyName, gNam, gTupD, gsCons, gsNil, lim_n]
theorem left_small (c K l s : Int) (o : Option D) (M : MH) (pe : ME) (b : MS) (pw : ∀ (env : En) (M : MH), pe env M = .ok (.int K) M) (h : (c.natAbs : Int) < K) (hb : b [some (.int c), some (.int c.natAbs), none, none] M = .nx [some (.int c), some (.int l), some (.int s), o] M) :
    mFn 4 (bCons (cAsg (mN absD (aCons (mVar 0) (aNil))) (gNam 1)) (bCons (cIf (mB (m2 ltD (mVar 1) pe)) b (bNil)) (bCons (cRet (mN celD (aCons (mVar 1) (aNil)))) (bNil)))) [.int c] M = .ok (.ref M.length) (M ++ [.lst [.int l]]) := by
  simp [absD, pw, h, celD, hb, mFn, bCons, bNil, cRet, cAsg, cIf, cErr, cFor, mVar, mC, m1, m2, mN, aNil, aCons, mCall, callM, picks, pick, mAnd, mOr, mAndT, mOrT, mNotT, mB, mTru, mIf, mItems, itemsD, mI, truD, notD, eqD, neD, likeD, isStr, flat, flats, cmpD, isiD, tyName, gNam, gTupD, gsCons, gsNil, lim_n]
theorem left (c : Int) (M : MH) : ∃ n : Int, 0 ≤ n ∧ m_law_left [.int c] M = .ok (.ref M.length) (M ++ [.lst [.int n]]) := by
  have pw : ∀ (env : En) (M : MH), m2 powD (mC (.int 10)) (mC (.int 18)) env M = .ok (.int 1000000000000000000) M := fun env M => by rfl
  have rg : rng1D [.int 40] M = .ok (rangeL 0 40) M := rng1_n (n := 40) rfl (by decide)
  by_cases h : (c.natAbs : Int) < 1000000000000000000
  · obtain ⟨e2, M2, h1, h2⟩ := forGo_inv (g := gNam 3) (b := p_law_left_L0) (fun i e M1 => M1 = M ∧ ∃ (l s : Int) (o : Option D), e = [some (.int c), some (.int l), some (.int s), o] ∧ 0 ≤ l ∧ l < 2 ^ (60 + 32 * i)) (rangeL 0 40) 0 [some (.int c), some (.int c.natAbs), some (.int c), none] M ⟨rfl, _, _, _, rfl, by omega, by
        have : (2 : Int) ^ (60 + 32 * 0) = 1152921504606846976 := by decide +kernel
        rw [this]
        omega⟩ fun i d e M1 hd hi => by
      obtain ⟨rfl, l, s, o, rfl, q0, q1⟩ := hi
      obtain ⟨hi, rfl⟩ := rangeL_get hd
      obtain ⟨l', s', r1, r2, r3⟩ := left_step (c := c) (s := s) hi q0 (by simpa using q1) o M1
      exact ⟨_, _, _, rfl, .inl r1, rfl, l', s', _, rfl, r2, by simpa [Nat.add_assoc] using r3⟩
    obtain ⟨rfl, l, s, o, rfl, q0, q1⟩ := h2
    refine ⟨l, q0, ?_⟩
    rw [m_law_left_eq]
    refine left_small c _ l s o M2 _ _ pw h ?_
    simp [rg, h1, mFn, bCons, bNil, cRet, cAsg, cIf, cErr, cFor, mVar, mC, m1, m2, mN, aNil, aCons, mCall, callM, picks, pick, mAnd, mOr, mAndT, mOrT, mNotT, mB, mTru, mIf, mItems, itemsD, mI, truD, notD, eqD, neD, likeD, isStr, flat, flats, cmpD, isiD, tyName, gNam, gTupD, gsCons, gsNil, lim_n]
  · refine ⟨c.natAbs, by omega, ?_⟩
    rw [m_law_left_eq]
    exact left_big c _ M _ _ pw h
theorem digit {n w : Int} {l k : Nat} {M : MH} (hw : 0 < w) (hw2 : w.natAbs < 2 ^ k) (hk : 0 < k) (hk2 : k < 9000) (hm : M[l]? = some (.lst [.int n])) : m_law_digit [.ref l, .int w] M = .ok (.int (n % w)) (M.set l (.lst [.int (n / w)])) := by
  have g : w.natAbs.log2 < 9000 := Nat.lt_trans (lg_of hw2 hk) hk2
  have a : atI ([.int n] : List D) 0 = some (.int n) := by rfl
  have x : ixN 1 0 = some 0 := by rfl
  simp [m_law_digit_eq, b_law_digit, ixD, hm, a, x, modD, fdivD, int2, hw, g, cPut, putD, mFn, bCons, bNil, cRet, cAsg, cIf, cErr, cFor, mVar, mC, m1, m2, mN, aNil, aCons, mCall, callM, picks, pick, mAnd, mOr, mAndT, mOrT, mNotT, mB, mTru, mIf, mItems, itemsD, mI, truD, notD, eqD, neD, likeD, isStr, flat, flats, cmpD, isiD, tyName, gNam, gTupD, gsCons, gsNil, lim_n]
theorem set_get {M : MH} {l : Nat} {o v : MO} (h : M[l]? = some o) : (M.set l v)[l]? = some v := by
  have hl := (List.getElem?_eq_some_iff.mp h).1
  rw [List.getElem?_set_self hl]
/-! numbers in bytes -/
theorem lg0 : Nat.log2 0 = 0 := by decide +kernel
theorem lg1 : Nat.log2 1 = 0 := by decide +kernel
theorem lg2 : Nat.log2 2 = 1 := by decide +kernel
theorem lg3 : Nat.log2 3 = 1 := by decide +kernel
theorem lg4 : Nat.log2 4 = 2 := by decide +kernel
theorem lg8 : Nat.log2 8 = 3 := by decide +kernel
theorem bits_le {i : Int} {k : Nat} (h0 : 0 ≤ i) (h1 : i < 2 ^ k) : Builtin.Int.intBits i ≤ k := by
  unfold Builtin.Int.intBits
  split
  · exact Nat.zero_le _
  · rename_i h
    have hz : i.natAbs ≠ 0 := fun z => h (by simp; omega)
    have : i.natAbs.log2 < k := (Nat.log2_lt hz).mpr (by
      have : (i.natAbs : Int) < ((2 ^ k : Nat) : Int) := by
        rw [Int.natAbs_of_nonneg h0]
        simpa using h1
      exact_mod_cast this)
    omega
theorem is_whole_i (i : Int) (M : MH) : m_is_whole [.int i] M = .ok (.bl true) M := by
  simp [m_is_whole_eq, b_is_whole, tyNames, isB, mFn, bCons, bNil, cRet, cAsg, cIf, cErr, cFor, mVar, mC, m1, m2, mN, aNil, aCons, mCall, callM, picks, pick, mAnd, mOr, mAndT, mOrT, mNotT, mB, mTru, mIf, mItems, itemsD, mI, truD, notD, eqD, neD, likeD, isStr, flat, flats, cmpD, isiD, tyName, gNam, gTupD, gsCons, gsNil, lim_n]
theorem and255 (x : Int) (h : 0 ≤ x) : Builtin.bitAnd x 255 = x % 256 := bitAnd_m8 x
theorem e_bs : deq (.str "big") (.str "small") = false := by decide +kernel
theorem e_ss : deq (.str "small") (.str "small") = true := by decide +kernel
/-- what is known of a number in so many bytes, highest first -/
structure Num (k : Int) (n : Int) (bs : List Int) : Prop where
  ofB : ∀ M, m_law_of_number [.int n, .int k, .str "big"] M = .ok (.tup (bs.map D.int)) M
  ofS : ∀ M, m_law_of_number [.int n, .int k, .str "small"] M = .ok (.tup (bs.reverse.map D.int)) M
  byB : ∀ M, m_bytes_of [.int n, .int k, .str "big"] M = .ok (.tup (bs.map D.int)) M
  byS : ∀ M, m_bytes_of [.int n, .int k, .str "small"] M = .ok (.tup (bs.reverse.map D.int)) M
  inB : ∀ M, m_number_in [.tup (bs.map D.int), .str "big"] M = .ok (.int n) M
  inS : ∀ M, m_number_in [.tup (bs.reverse.map D.int), .str "small"] M = .ok (.int n) M
  len : bs.length < 10
  byt : ∀ b ∈ bs, 0 ≤ b ∧ b < 256
theorem is_number {i k : Int} {b : Nat} (M : MH) (h0 : 0 ≤ i) (h1 : i < 2 ^ b) (hb : (b : Int) = 8 * k) (hk : 0 < k ∧ k ≤ 4) : m_is_number [.int i, .int k] M = .ok (.bl true) M := by
  have g : Builtin.Int.intBits i ≤ b := bits_le h0 h1
  have g1 : ((Builtin.Int.intBits i : Nat) : Int) ≤ 8 * k := by omega
  have m : mulD (.int 8) (.int k) M = .ok (.int (8 * k)) M := mul_ok (a := 4) (b := 4) (by decide) (by omega) (by decide) (by decide) (by decide)
  simp [m_is_number_eq, b_is_number, is_whole_i, m, bitsD, h0, g1, mFn, bCons, bNil, cRet, cAsg, cIf, cErr, cFor, mVar, mC, m1, m2, mN, aNil, aCons, mCall, callM, picks, pick, mAnd, mOr, mAndT, mOrT, mNotT, mB, mTru, mIf, mItems, itemsD, mI, truD, notD, eqD, neD, likeD, isStr, flat, flats, cmpD, isiD, tyName, gNam, gTupD, gsCons, gsNil, lim_n]
/-- a number out of bytes -/
def foldB (a : Int) (bs : List Int) : Int := bs.foldl (fun x b => x * 256 + b) a
theorem in_go : ∀ (bs : List Int) (j : Nat) (a : Int) (o0 o1 o2 o4 : Option D) (M : MH), (∀ b ∈ bs, 0 ≤ b ∧ b < 256) → 0 ≤ a → a < 2 ^ (8 * j + 8) → j + bs.length < 1000 → ∃ o, forGo (gNam 4) p_number_in_L0 (bs.map D.int) [o0, o1, o2, some (.int a), o4] M = .nx [o0, o1, o2, some (.int (foldB a bs)), o] M
  | [], j, a, o0, o1, o2, o4, M, _, _, _, _ => ⟨o4, by simp [forGo, foldB, mFn, bCons, bNil, cRet, cAsg, cIf, cErr, cFor, mVar, mC, m1, m2, mN, aNil, aCons, mCall, callM, picks, pick, mAnd, mOr, mAndT, mOrT, mNotT, mB, mTru, mIf, mItems, itemsD, mI, truD, notD, eqD, neD, likeD, isStr, flat, flats, cmpD, isiD, tyName, gNam, gTupD, gsCons, gsNil, lim_n]⟩
  | b :: bs, j, a, o0, o1, o2, o4, M, hb, h0, h1, hj => by
    obtain ⟨b0, b1⟩ := hb b (List.mem_cons_self ..)
    rw [List.length_cons] at hj
    have hn : a.natAbs < 2 ^ (8 * j + 8) := by
      have e2 : (2 : Int) ^ (8 * j + 8) = ((2 ^ (8 * j + 8) : Nat) : Int) := by simp
      rw [e2] at h1
      omega
    have m : mulD (.int a) (.int 256) M = .ok (.int (a * 256)) M := mul_ok (a := 8 * j + 8) (b := 9) hn (by decide) (by omega) (by decide) (by omega)
    have h1' : a * 256 + b < 2 ^ (8 * (j + 1) + 8) := by
      have e3 : (2 : Int) ^ (8 * (j + 1) + 8) = 2 ^ (8 * j + 8) * 256 := by
        rw [show 8 * (j + 1) + 8 = (8 * j + 8) + 8 by omega, Int.pow_add]
        rw [show (2 : Int) ^ 8 = 256 by decide +kernel]
      rw [e3]
      generalize (2 : Int) ^ (8 * j + 8) = X at h1 ⊢
      omega
    obtain ⟨o, r⟩ := in_go bs (j + 1) (a * 256 + b) o0 o1 o2 (some (.int b)) M (fun c hc => hb c (List.mem_cons_of_mem _ hc)) (by omega) h1' (by omega)
    refine ⟨o, ?_⟩
    simp [forGo, p_number_in_L0, m, addD, mFn, bCons, bNil, cRet, cAsg, cIf, cErr, cFor, mVar, mC, m1, m2, mN, aNil, aCons, mCall, callM, picks, pick, mAnd, mOr, mAndT, mOrT, mNotT, mB, mTru, mIf, mItems, itemsD, mI, truD, notD, eqD, neD, likeD, isStr, flat, flats, cmpD, isiD, tyName, gNam, gTupD, gsCons, gsNil, lim_n]
    exact r
theorem in_big {bs : List Int} (hb : ∀ b ∈ bs, 0 ≤ b ∧ b < 256) (hl : bs.length < 100) (M : MH) : m_number_in [.tup (bs.map D.int), .str "big"] M = .ok (.int (foldB 0 bs)) M := by
  obtain ⟨o, r⟩ := in_go bs 0 0 (some (.tup (bs.map D.int))) (some (.str "big")) (some (.tup (bs.map D.int))) none M hb (by decide) (by decide) (by omega)
  simp [m_number_in_eq, b_number_in, e_bs, r, mFn, bCons, bNil, cRet, cAsg, cIf, cErr, cFor, mVar, mC, m1, m2, mN, aNil, aCons, mCall, callM, picks, pick, mAnd, mOr, mAndT, mOrT, mNotT, mB, mTru, mIf, mItems, itemsD, mI, truD, notD, eqD, neD, likeD, isStr, flat, flats, cmpD, isiD, tyName, gNam, gTupD, gsCons, gsNil, lim_n]
theorem in_small {bs : List Int} (hb : ∀ b ∈ bs, 0 ≤ b ∧ b < 256) (hl : bs.length < 100) (M : MH) : m_number_in [.tup (bs.map D.int), .str "small"] M = .ok (.int (foldB 0 bs.reverse)) M := by
  obtain ⟨o, r⟩ := in_go bs.reverse 0 0 (some (.tup (bs.map D.int))) (some (.str "small")) (some (.tup (bs.reverse.map D.int))) none M (fun b h => hb b (List.mem_reverse.mp h)) (by decide) (by decide) (by rw [List.length_reverse]; omega)
  rw [List.map_reverse] at r
  simp [m_number_in_eq, b_number_in, e_ss, revD, negD, r, mFn, bCons, bNil, cRet, cAsg, cIf, cErr, cFor, mVar, mC, m1, m2, mN, aNil, aCons, mCall, callM, picks, pick, mAnd, mOr, mAndT, mOrT, mNotT, mB, mTru, mIf, mItems, itemsD, mI, truD, notD, eqD, neD, likeD, isStr, flat, flats, cmpD, isiD, tyName, gNam, gTupD, gsCons, gsNil, lim_n]
theorem pw8 : (256 : Int) = 2 ^ 8 := by decide +kernel
theorem pw16 : (65536 : Int) = 2 ^ 16 := by decide +kernel
theorem pw24 : (16777216 : Int) = 2 ^ 24 := by decide +kernel
theorem pw32 : (4294967296 : Int) = 2 ^ 32 := by decide +kernel
theorem rg (k : Nat) (hk : k < 1000) (M : MH) : rng1D [.int k] M = .ok (rangeL 0 k) M := rng1_n rfl (by omega)
theorem rl1 : rangeL 0 1 = [.int 0] := rfl
theorem rl2 : rangeL 0 2 = [.int 0, .int 1] := rfl
theorem rl3 : rangeL 0 3 = [.int 0, .int 1, .int 2] := rfl
theorem rl4 : rangeL 0 4 = [.int 0, .int 1, .int 2, .int 3] := rfl
theorem num1 {n : Int} (h0 : 0 ≤ n) (h1 : n < 256) : Num 1 n [n % 256] := by
  have r : ∀ M, rng1D [.int 1] M = .ok [.int 0] M := fun M => rg 1 (by decide) M
  have w : ∀ M, m_is_number [.int n, .int 1] M = .ok (.bl true) M := fun M => is_number (b := 8) M h0 (pw8 ▸ h1) (by decide) ⟨by decide, by decide⟩
  have by' : ∀ b ∈ [n % 256], 0 ≤ b ∧ b < 256 := fun b h => by simp at h; omega
  have fo : foldB 0 [n % 256] = n := by simp only [foldB, List.foldl]; omega
  refine ⟨fun M => ?_, fun M => ?_, fun M => ?_, fun M => ?_, fun M => ?_, fun M => ?_, by simp, by'⟩
  · simp [m_law_of_number_eq, b_law_of_number, r, forGo, p_law_of_number_L0, shrD, mulD, andD, int2, addD, tupD, and255, h0, e_bs, lg0, lg1, lg2, lg3, lg8, mFn, bCons, bNil, cRet, cAsg, cIf, cErr, cFor, mVar, mC, m1, m2, mN, aNil, aCons, mCall, callM, picks, pick, mAnd, mOr, mAndT, mOrT, mNotT, mB, mTru, mIf, mItems, itemsD, mI, truD, notD, eqD, neD, likeD, isStr, flat, flats, cmpD, isiD, tyName, gNam, gTupD, gsCons, gsNil, lim_n]
  · simp [m_law_of_number_eq, b_law_of_number, r, forGo, p_law_of_number_L0, shrD, mulD, andD, int2, addD, tupD, and255, h0, e_ss, revD, negD, lg0, lg1, lg2, lg3, lg8, mFn, bCons, bNil, cRet, cAsg, cIf, cErr, cFor, mVar, mC, m1, m2, mN, aNil, aCons, mCall, callM, picks, pick, mAnd, mOr, mAndT, mOrT, mNotT, mB, mTru, mIf, mItems, itemsD, mI, truD, notD, eqD, neD, likeD, isStr, flat, flats, cmpD, isiD, tyName, gNam, gTupD, gsCons, gsNil, lim_n]
  · simp [m_bytes_of_eq, b_bytes_of, w, r, mLc, lcGo, lcOne, mYes, noX, wipeE, p_bytes_of_C0, shrD, mulD, andD, int2, and255, h0, tupOfD, e_bs, negD, revD, lg0, lg1, lg2, lg3, lg8, mFn, bCons, bNil, cRet, cAsg, cIf, cErr, cFor, mVar, mC, m1, m2, mN, aNil, aCons, mCall, callM, picks, pick, mAnd, mOr, mAndT, mOrT, mNotT, mB, mTru, mIf, mItems, itemsD, mI, truD, notD, eqD, neD, likeD, isStr, flat, flats, cmpD, isiD, tyName, gNam, gTupD, gsCons, gsNil, lim_n]
  · simp [m_bytes_of_eq, b_bytes_of, w, r, mLc, lcGo, lcOne, mYes, noX, wipeE, p_bytes_of_C0, shrD, mulD, andD, int2, and255, h0, tupOfD, e_ss, negD, revD, lg0, lg1, lg2, lg3, lg8, mFn, bCons, bNil, cRet, cAsg, cIf, cErr, cFor, mVar, mC, m1, m2, mN, aNil, aCons, mCall, callM, picks, pick, mAnd, mOr, mAndT, mOrT, mNotT, mB, mTru, mIf, mItems, itemsD, mI, truD, notD, eqD, neD, likeD, isStr, flat, flats, cmpD, isiD, tyName, gNam, gTupD, gsCons, gsNil, lim_n]
  · rw [in_big by' (by simp), fo]
  · rw [in_small (fun b h => by' b (List.mem_reverse.mp h)) (by simp), List.reverse_reverse, fo]
theorem num2 {n : Int} (h0 : 0 ≤ n) (h1 : n < 65536) : Num 2 n [n / 256 % 256, n % 256] := by
  have r : ∀ M, rng1D [.int 2] M = .ok [.int 0, .int 1] M := fun M => rg 2 (by decide) M
  have w : ∀ M, m_is_number [.int n, .int 2] M = .ok (.bl true) M := fun M => is_number (b := 16) M h0 (pw16 ▸ h1) (by decide) ⟨by decide, by decide⟩
  have by' : ∀ b ∈ [n / 256 % 256, n % 256], 0 ≤ b ∧ b < 256 := fun b h => by simp at h; omega
  have fo : foldB 0 [n / 256 % 256, n % 256] = n := by simp only [foldB, List.foldl]; omega
  have d1 : 0 ≤ n / 256 := by omega
  refine ⟨fun M => ?_, fun M => ?_, fun M => ?_, fun M => ?_, fun M => ?_, fun M => ?_, by simp, by'⟩
  · simp [m_law_of_number_eq, b_law_of_number, r, forGo, p_law_of_number_L0, shrD, mulD, andD, int2, addD, tupD, and255, h0, d1, e_bs, lg0, lg1, lg2, lg3, lg8, mFn, bCons, bNil, cRet, cAsg, cIf, cErr, cFor, mVar, mC, m1, m2, mN, aNil, aCons, mCall, callM, picks, pick, mAnd, mOr, mAndT, mOrT, mNotT, mB, mTru, mIf, mItems, itemsD, mI, truD, notD, eqD, neD, likeD, isStr, flat, flats, cmpD, isiD, tyName, gNam, gTupD, gsCons, gsNil, lim_n]
  · simp [m_law_of_number_eq, b_law_of_number, r, forGo, p_law_of_number_L0, shrD, mulD, andD, int2, addD, tupD, and255, h0, d1, e_ss, revD, negD, lg0, lg1, lg2, lg3, lg8, mFn, bCons, bNil, cRet, cAsg, cIf, cErr, cFor, mVar, mC, m1, m2, mN, aNil, aCons, mCall, callM, picks, pick, mAnd, mOr, mAndT, mOrT, mNotT, mB, mTru, mIf, mItems, itemsD, mI, truD, notD, eqD, neD, likeD, isStr, flat, flats, cmpD, isiD, tyName, gNam, gTupD, gsCons, gsNil, lim_n]
  · simp [m_bytes_of_eq, b_bytes_of, w, r, mLc, lcGo, lcOne, mYes, noX, wipeE, p_bytes_of_C0, shrD, mulD, andD, int2, and255, h0, d1, tupOfD, e_bs, negD, revD, lg0, lg1, lg2, lg3, lg8, mFn, bCons, bNil, cRet, cAsg, cIf, cErr, cFor, mVar, mC, m1, m2, mN, aNil, aCons, mCall, callM, picks, pick, mAnd, mOr, mAndT, mOrT, mNotT, mB, mTru, mIf, mItems, itemsD, mI, truD, notD, eqD, neD, likeD, isStr, flat, flats, cmpD, isiD, tyName, gNam, gTupD, gsCons, gsNil, lim_n]
  · simp [m_bytes_of_eq, b_bytes_of, w, r, mLc, lcGo, lcOne, mYes, noX, wipeE, p_bytes_of_C0, shrD, mulD, andD, int2, and255, h0, d1, tupOfD, e_ss, negD, revD, lg0, lg1, lg2, lg3, lg8, mFn, bCons, bNil, cRet, cAsg, cIf, cErr, cFor, mVar, mC, m1, m2, mN, aNil, aCons, mCall, callM, picks, pick, mAnd, mOr, mAndT, mOrT, mNotT, mB, mTru, mIf, mItems, itemsD, mI, truD, notD, eqD, neD, likeD, isStr, flat, flats, cmpD, isiD, tyName, gNam, gTupD, gsCons, gsNil, lim_n]
  · rw [in_big by' (by simp), fo]
  · rw [in_small (fun b h => by' b (List.mem_reverse.mp h)) (by simp), List.reverse_reverse, fo]
theorem num3 {n : Int} (h0 : 0 ≤ n) (h1 : n < 16777216) : Num 3 n [n / 65536 % 256, n / 256 % 256, n % 256] := by
  have r : ∀ M, rng1D [.int 3] M = .ok [.int 0, .int 1, .int 2] M := fun M => rg 3 (by decide) M
  have w : ∀ M, m_is_number [.int n, .int 3] M = .ok (.bl true) M := fun M => is_number (b := 24) M h0 (pw24 ▸ h1) (by decide) ⟨by decide, by decide⟩
  have by' : ∀ b ∈ [n / 65536 % 256, n / 256 % 256, n % 256], 0 ≤ b ∧ b < 256 := fun b h => by simp at h; omega
  have fo : foldB 0 [n / 65536 % 256, n / 256 % 256, n % 256] = n := by simp only [foldB, List.foldl]; omega
  have d1 : 0 ≤ n / 256 := by omega
  have d2 : 0 ≤ n / 65536 := by omega
  refine ⟨fun M => ?_, fun M => ?_, fun M => ?_, fun M => ?_, fun M => ?_, fun M => ?_, by simp, by'⟩
  · simp [m_law_of_number_eq, b_law_of_number, r, forGo, p_law_of_number_L0, shrD, mulD, andD, int2, addD, tupD, and255, h0, d1, d2, e_bs, lg0, lg1, lg2, lg3, lg8, mFn, bCons, bNil, cRet, cAsg, cIf, cErr, cFor, mVar, mC, m1, m2, mN, aNil, aCons, mCall, callM, picks, pick, mAnd, mOr, mAndT, mOrT, mNotT, mB, mTru, mIf, mItems, itemsD, mI, truD, notD, eqD, neD, likeD, isStr, flat, flats, cmpD, isiD, tyName, gNam, gTupD, gsCons, gsNil, lim_n]
  · simp [m_law_of_number_eq, b_law_of_number, r, forGo, p_law_of_number_L0, shrD, mulD, andD, int2, addD, tupD, and255, h0, d1, d2, e_ss, revD, negD, lg0, lg1, lg2, lg3, lg8, mFn, bCons, bNil, cRet, cAsg, cIf, cErr, cFor, mVar, mC, m1, m2, mN, aNil, aCons, mCall, callM, picks, pick, mAnd, mOr, mAndT, mOrT, mNotT, mB, mTru, mIf, mItems, itemsD, mI, truD, notD, eqD, neD, likeD, isStr, flat, flats, cmpD, isiD, tyName, gNam, gTupD, gsCons, gsNil, lim_n]
  · simp [m_bytes_of_eq, b_bytes_of, w, r, mLc, lcGo, lcOne, mYes, noX, wipeE, p_bytes_of_C0, shrD, mulD, andD, int2, and255, h0, d1, d2, tupOfD, e_bs, negD, revD, lg0, lg1, lg2, lg3, lg8, mFn, bCons, bNil, cRet, cAsg, cIf, cErr, cFor, mVar, mC, m1, m2, mN, aNil, aCons, mCall, callM, picks, pick, mAnd, mOr, mAndT, mOrT, mNotT, mB, mTru, mIf, mItems, itemsD, mI, truD, notD, eqD, neD, likeD, isStr, flat, flats, cmpD, isiD, tyName, gNam, gTupD, gsCons, gsNil, lim_n]
  · simp [m_bytes_of_eq, b_bytes_of, w, r, mLc, lcGo, lcOne, mYes, noX, wipeE, p_bytes_of_C0, shrD, mulD, andD, int2, and255, h0, d1, d2, tupOfD, e_ss, negD, revD, lg0, lg1, lg2, lg3, lg8, mFn, bCons, bNil, cRet, cAsg, cIf, cErr, cFor, mVar, mC, m1, m2, mN, aNil, aCons, mCall, callM, picks, pick, mAnd, mOr, mAndT, mOrT, mNotT, mB, mTru, mIf, mItems, itemsD, mI, truD, notD, eqD, neD, likeD, isStr, flat, flats, cmpD, isiD, tyName, gNam, gTupD, gsCons, gsNil, lim_n]
  · rw [in_big by' (by simp), fo]
  · rw [in_small (fun b h => by' b (List.mem_reverse.mp h)) (by simp), List.reverse_reverse, fo]
theorem num4 {n : Int} (h0 : 0 ≤ n) (h1 : n < 4294967296) : Num 4 n [n / 16777216 % 256, n / 65536 % 256, n / 256 % 256, n % 256] := by
  have r : ∀ M, rng1D [.int 4] M = .ok [.int 0, .int 1, .int 2, .int 3] M := fun M => rg 4 (by decide) M
  have w : ∀ M, m_is_number [.int n, .int 4] M = .ok (.bl true) M := fun M => is_number (b := 32) M h0 (pw32 ▸ h1) (by decide) ⟨by decide, by decide⟩
  have by' : ∀ b ∈ [n / 16777216 % 256, n / 65536 % 256, n / 256 % 256, n % 256], 0 ≤ b ∧ b < 256 := fun b h => by simp at h; omega
  have fo : foldB 0 [n / 16777216 % 256, n / 65536 % 256, n / 256 % 256, n % 256] = n := by simp only [foldB, List.foldl]; omega
  have d1 : 0 ≤ n / 256 := by omega
  have d2 : 0 ≤ n / 65536 := by omega
  have d3 : 0 ≤ n / 16777216 := by omega
  refine ⟨fun M => ?_, fun M => ?_, fun M => ?_, fun M => ?_, fun M => ?_, fun M => ?_, by simp, by'⟩
  · simp [m_law_of_number_eq, b_law_of_number, r, forGo, p_law_of_number_L0, shrD, mulD, andD, int2, addD, tupD, and255, h0, d1, d2, d3, e_bs, lg0, lg1, lg2, lg3, lg8, mFn, bCons, bNil, cRet, cAsg, cIf, cErr, cFor, mVar, mC, m1, m2, mN, aNil, aCons, mCall, callM, picks, pick, mAnd, mOr, mAndT, mOrT, mNotT, mB, mTru, mIf, mItems, itemsD, mI, truD, notD, eqD, neD, likeD, isStr, flat, flats, cmpD, isiD, tyName, gNam, gTupD, gsCons, gsNil, lim_n]
  · simp [m_law_of_number_eq, b_law_of_number, r, forGo, p_law_of_number_L0, shrD, mulD, andD, int2, addD, tupD, and255, h0, d1, d2, d3, e_ss, revD, negD, lg0, lg1, lg2, lg3, lg8, mFn, bCons, bNil, cRet, cAsg, cIf, cErr, cFor, mVar, mC, m1, m2, mN, aNil, aCons, mCall, callM, picks, pick, mAnd, mOr, mAndT, mOrT, mNotT, mB, mTru, mIf, mItems, itemsD, mI, truD, notD, eqD, neD, likeD, isStr, flat, flats, cmpD, isiD, tyName, gNam, gTupD, gsCons, gsNil, lim_n]
  · simp [m_bytes_of_eq, b_bytes_of, w, r, mLc, lcGo, lcOne, mYes, noX, wipeE, p_bytes_of_C0, shrD, mulD, andD, int2, and255, h0, d1, d2, d3, tupOfD, e_bs, negD, revD, lg0, lg1, lg2, lg3, lg8, mFn, bCons, bNil, cRet, cAsg, cIf, cErr, cFor, mVar, mC, m1, m2, mN, aNil, aCons, mCall, callM, picks, pick, mAnd, mOr, mAndT, mOrT, mNotT, mB, mTru, mIf, mItems, itemsD, mI, truD, notD, eqD, neD, likeD, isStr, flat, flats, cmpD, isiD, tyName, gNam, gTupD, gsCons, gsNil, lim_n]
  · simp [m_bytes_of_eq, b_bytes_of, w, r, mLc, lcGo, lcOne, mYes, noX, wipeE, p_bytes_of_C0, shrD, mulD, andD, int2, and255, h0, d1, d2, d3, tupOfD, e_ss, negD, revD, lg0, lg1, lg2, lg3, lg8, mFn, bCons, bNil, cRet, cAsg, cIf, cErr, cFor, mVar, mC, m1, m2, mN, aNil, aCons, mCall, callM, picks, pick, mAnd, mOr, mAndT, mOrT, mNotT, mB, mTru, mIf, mItems, itemsD, mI, truD, notD, eqD, neD, likeD, isStr, flat, flats, cmpD, isiD, tyName, gNam, gTupD, gsCons, gsNil, lim_n]
  · rw [in_big by' (by simp), fo]
  · rw [in_small (fun b h => by' b (List.mem_reverse.mp h)) (by simp), List.reverse_reverse, fo]
theorem num {k n : Int} (hk : 1 ≤ k ∧ k ≤ 4) (h0 : 0 ≤ n) (h1 : n < 2 ^ (8 * k).toNat) : ∃ bs, Num k n bs := by
  have c : k = 1 ∨ k = 2 ∨ k = 3 ∨ k = 4 := by omega
  rcases c with rfl | rfl | rfl | rfl
  · exact ⟨_, num1 h0 (pw8 ▸ h1)⟩
  · exact ⟨_, num2 h0 (pw16 ▸ h1)⟩
  · exact ⟨_, num3 h0 (pw24 ▸ h1)⟩
  · exact ⟨_, num4 h0 (pw32 ▸ h1)⟩
theorem likeT (bs cs : List Int) : likeD (.tup (bs.map D.int)) (.tup (cs.map D.int)) = true := by
  unfold likeD
  simp [isStr, flat, flats_ints]
theorem deqT (is : List Int) : deq (.tup (is.map .int)) (.tup (is.map .int)) = true := by
  unfold deq py
  rw [pys_ints]
  show PyData.eqvAll (is.map PyData.int) (is.map PyData.int) = true
  induction is with
  | nil => rfl
  | cons b bs ih => simp [PyData.eqvAll, PyData.eqv, ih]
theorem neT (bs : List Int) (M : MH) : neD (.tup (bs.map D.int)) (.tup (bs.map D.int)) M = .ok (.bl false) M := by
  unfold neD
  rw [if_pos (likeT bs bs), deqT]
  rfl
theorem deqI (i : Int) : deq (.int i) (.int i) = true := by simp [deq, py, PyData.eqv]
theorem neI (i : Int) (M : MH) : neD (.int i) (.int i) M = .ok (.bl false) M := by
  unfold neD
  rw [if_pos (by rfl), deqI]
  rfl
/-- one order -/
theorem way_big {k n : Int} {bs : List Int} (N : Num k n bs) (o0 o1 o2 o4 o7 o8 : Option D) (M : MH) : p_law_L0 [o0, o1, o2, some (.int k), o4, some (.int n), some (.str "big"), o7, o8] M = .nx [o0, o1, o2, some (.int k), o4, some (.int n), some (.str "big"), some (.tup (bs.map D.int)), o8] M := by
  have := neT bs M
  have := neI n M
  unfold p_law_L0
  simp [bCons, cAsg, cIf, mCall, aCons, aNil, mVar, callM, picks, pick, N.ofB, N.byB, N.inB, gNam, mOrT, mB, m2, *, bNil]
theorem way_small {k n : Int} {bs : List Int} (N : Num k n bs) (o0 o1 o2 o4 o7 o8 : Option D) (M : MH) : p_law_L0 [o0, o1, o2, some (.int k), o4, some (.int n), some (.str "small"), o7, o8] M = .nx [o0, o1, o2, some (.int k), o4, some (.int n), some (.str "small"), some (.tup (bs.reverse.map D.int)), o8] M := by
  have := neT bs.reverse M
  have := neI n M
  unfold p_law_L0
  simp only [List.map_reverse] at *
  have h1 := N.ofS
  have h2 := N.byS
  have h3 := N.inS
  simp only [List.map_reverse] at h1 h2 h3
  simp [bCons, cAsg, cIf, mCall, aCons, aNil, mVar, callM, picks, pick, h1, h2, h3, gNam, mOrT, mB, m2, *, bNil]
theorem num_step {k n : Int} {bs : List Int} (N : Num k n bs) (o0 o1 o2 o4 o6 o7 o8 : Option D) (M : MH) : ∃ o6' o7', p_law_L1 [o0, o1, o2, some (.int k), o4, some (.int n), o6, o7, o8] M = .nx [o0, o1, o2, some (.int k), o4, some (.int n), o6', o7', o8] M := by
  refine ⟨some (.str "small"), some (.tup (bs.map D.int)), ?_⟩
  have h3 := N.inS
  have h5 := neT bs M
  have h6 := neI n M
  simp only [List.map_reverse] at h3
  have g1 : ∀ o7, p_law_L0 [o0, o1, o2, some (.int k), o4, some (.int n), some (.str "big"), o7, o8] M = _ := fun o7 => way_big N o0 o1 o2 o4 o7 o8 M
  have g2 : ∀ o7, p_law_L0 [o0, o1, o2, some (.int k), o4, some (.int n), some (.str "small"), o7, o8] M = _ := fun o7 => way_small N o0 o1 o2 o4 o7 o8 M
  unfold p_law_L1
  simp [bCons, cAsg, cIf, cFor, mCall, aCons, aNil, mVar, mC, callM, picks, pick, N.ofB, N.byB, N.inB, h3, gNam, mOrT, mB, m1, m2, mN, lstD, lim_n, mItems, itemsD, forGo, g1, g2, revD, negD, h5, h6, bNil]
end K01

end

section
set_option maxHeartbeats 4000000
namespace K01
open PySem PySem.Spec PyProof.Rows L2 Mi
/-! what is refused -/
theorem whole_no {d : D} {t : String} {M : MH} (h : tyName M d = some t) (n : isB t "int" = false) : m_is_whole [d] M = .ok (.bl false) M := by
  rw [m_is_whole_eq]
  simp [mFn, b_is_whole, bCons, cRet, mAnd, mN, aCons, aNil, mVar, mC, isiD, h, tyNames, n, truD]
theorem whole_bl {b : Bool} {M : MH} : m_is_whole [.bl b] M = .ok (.bl false) M := by
  rw [m_is_whole_eq]
  simp [mFn, b_is_whole, bCons, cRet, mAnd, mN, m1, notD, aCons, aNil, mVar, mC, isiD, tyName, tyNames, isB, truD]
theorem number_not {d k : D} {M : MH} (h : m_is_whole [d] M = .ok (.bl false) M) : m_is_number [d, k] M = .ok (.bl false) M := by
  rw [m_is_number_eq]
  simp [mFn, b_is_number, bCons, cRet, mAnd, mCall, aCons, aNil, mVar, callM, picks, pick, h, truD]
theorem number_neg {i k : Int} {M : MH} (h : i < 0) : m_is_number [.int i, .int k] M = .ok (.bl false) M := by
  have g : ¬ (0 ≤ i) := by omega
  rw [m_is_number_eq]
  simp [mFn, b_is_number, bCons, cRet, mAnd, mCall, aCons, aNil, mVar, mC, callM, picks, pick, is_whole_i, truD, m2, cmpD, g]
theorem number_big {i k : Int} {M : MH} (h : 0 ≤ i) (hk : 0 < k ∧ k ≤ 4) (hb : 8 * k < (Builtin.Int.intBits i : Int)) : m_is_number [.int i, .int k] M = .ok (.bl false) M := by
  have m : mulD (.int 8) (.int k) M = .ok (.int (8 * k)) M := mul_ok (a := 4) (b := 4) (by decide) (by omega) (by decide) (by decide) (by decide)
  have g : ¬ ((Builtin.Int.intBits i : Int) ≤ 8 * k) := by omega
  rw [m_is_number_eq]
  simp [mFn, b_is_number, bCons, cRet, mAnd, mCall, aCons, aNil, mVar, mC, callM, picks, pick, is_whole_i, truD, m2, m1, cmpD, h, m, bitsD, g]
theorem raises {d k w : D} {M : MH} (h : m_is_number [d, k] M = .ok (.bl false) M) : m_bytes_of [d, k, w] M = .exc "NoNumber" none M := by
  rw [m_bytes_of_eq]
  simp [mFn, b_bytes_of, bCons, cIf, mNotT, mTru, mCall, aCons, aNil, mVar, mC, callM, picks, pick, h, truD, mRaise0, lim_n]
theorem exN : exT ex_NoNumber "NoNumber" = some true := by rfl
theorem itB : isE itab "NoNumber" (.inl "BenchError") = some true := by rfl
theorem itV : isE itab "NoNumber" (.inr "ValueError") = some true := by rfl
theorem itK : isEs itab "NoNumber" [.fn "NoKind", .fn "NoWorth"] = some false := by rfl
theorem refused {d k w : D} {M : MH} (h : m_is_number [d, k] M = .ok (.bl false) M) : m_law_refused [d, k, w] M = .ok (.bl true) M := by
  have r := raises (w := w) h
  have y : p_law_refused_Y0 [some d, some k, some w, none] M = .exc "NoNumber" none [some d, some k, some w, none] M := by
    unfold p_law_refused_Y0
    simp [bCons, cExp, mCall, aCons, aNil, mVar, callM, picks, pick, r]
  rw [m_law_refused_eq]
  simp [mFn, b_law_refused, bCons, cTryAs, y, exN, exoOf, cRet, mAnd, mN, m1, aCons, aNil, mVar, mC, isiE, ckOf, itB, itV, itK, tupD, lim_n, truD, notD]
/-- the two orders of one thing -/
theorem ref_step {d k : D} {M : MH} (h : m_is_number [d, k] M = .ok (.bl false) M) (o0 o1 o2 o4 o5 o6 o7 : Option D) : p_law_L3 [o0, o1, o2, some k, o4, o5, o6, o7, some d] M = .nx [o0, o1, o2, some k, o4, o5, some (.str "small"), o7, some d] M := by
  have r : ∀ w, m_law_refused [d, k, w] M = .ok (.bl true) M := fun w => refused h
  have s : ∀ w, p_law_L2 [o0, o1, o2, some k, o4, o5, some w, o7, some d] M = .nx [o0, o1, o2, some k, o4, o5, some w, o7, some d] M := fun w => by
    unfold p_law_L2
    simp [bCons, cIf, mNotT, mTru, mCall, aCons, aNil, mVar, callM, picks, pick, r, truD, bNil]
  unfold p_law_L3
  simp [bCons, cFor, mItems, mN, lstD, aCons, aNil, mC, lim_n, itemsD, forGo, gNam, s, bNil]
theorem ib1 : (Builtin.Int.intBits 256 : Int) = 9 := by decide +kernel
theorem ib2 : (Builtin.Int.intBits 65536 : Int) = 17 := by decide +kernel
theorem ib3 : (Builtin.Int.intBits 16777216 : Int) = 25 := by decide +kernel
theorem ib4 : (Builtin.Int.intBits 4294967296 : Int) = 33 := by decide +kernel
theorem ic1 : (Builtin.Int.intBits (256 + 255) : Int) = 9 := by decide +kernel
theorem ic2 : (Builtin.Int.intBits (65536 + 255) : Int) = 17 := by decide +kernel
theorem ic3 : (Builtin.Int.intBits (16777216 + 255) : Int) = 25 := by decide +kernel
theorem ic4 : (Builtin.Int.intBits (4294967296 + 255) : Int) = 33 := by decide +kernel
theorem i40 : (Builtin.Int.intBits (10 ^ 40) : Int) = 133 := by decide +kernel
/-- a size and the number above it -/
structure Top (k t : Int) : Prop where
  k1 : 1 ≤ k
  k4 : k ≤ 4
  t0 : 256 ≤ t
  tp : t = 2 ^ (8 * k).toNat
  b : (Builtin.Int.intBits t : Int) = 8 * k + 1
  c : (Builtin.Int.intBits (t + 255) : Int) = 8 * k + 1
theorem top {k : Int} (h1 : 1 ≤ k) (h4 : k ≤ 4) : ∃ t, Top k t := by
  have c : k = 1 ∨ k = 2 ∨ k = 3 ∨ k = 4 := by omega
  rcases c with rfl | rfl | rfl | rfl
  · exact ⟨256, by decide, by decide, by decide, by decide +kernel, ib1, ic1⟩
  · exact ⟨65536, by decide, by decide, by decide, by decide +kernel, ib2, ic2⟩
  · exact ⟨16777216, by decide, by decide, by decide, by decide +kernel, ib3, ic3⟩
  · exact ⟨4294967296, by decide, by decide, by decide, by decide +kernel, ib4, ic4⟩
/-- all that is refused -/
theorem refs {k t : Int} (T : Top k t) (M : MH) (d : D) (hd : d ∈ [D.int t, .int (-1), .int (t + 255), .non, .bl true, .str "1", .tup [.int 1], .int (10 ^ 40), .lst [.int 0]]) : m_is_number [d, .int k] M = .ok (.bl false) M := by
  have hk : 0 < k ∧ k ≤ 4 := ⟨by have := T.k1; omega, T.k4⟩
  have t0 := T.t0
  simp only [List.mem_cons, List.not_mem_nil, or_false] at hd
  rcases hd with rfl | rfl | rfl | rfl | rfl | rfl | rfl | rfl | rfl
  · exact number_big (by omega) hk (by rw [T.b]; omega)
  · exact number_neg (by decide)
  · exact number_big (by omega) hk (by rw [T.c]; omega)
  · exact number_not (whole_no rfl rfl)
  · exact number_not whole_bl
  · exact number_not (whole_no rfl rfl)
  · exact number_not (whole_no rfl rfl)
  · refine number_big (by decide +kernel) hk ?_
    rw [i40]
    omega
  · exact number_not (whole_no rfl rfl)
end K01

end

section
set_option maxHeartbeats 4000000
namespace K01
open PySem PySem.Spec PyProof.Rows L2 Mi
/-! the looks -/
theorem lcGo_fm {f : D → MH → R (Option D)} {p : D → Bool} {M : MH} : ∀ {items : List D}, (∀ x ∈ items, f x M = .ok (if p x = true then some x else none) M) → lcGo f items M = .ok (items.filter p) M
  | [], _ => rfl
  | x :: xs, q => by
    unfold lcGo
    rw [q x (List.mem_cons_self ..)]
    simp only [R.bind_ok]
    rw [lcGo_fm fun y hy => q y (List.mem_cons_of_mem _ hy)]
    simp only [R.bind_ok, List.filter_cons]
    cases p x <;> simp
def byteD : D → Bool
  | .int i => decide (0 ≤ i ∧ i < 256)
  | _ => false
/-- a thing of a known type -/
def Ty (M : MH) (d : D) : Prop := ∃ t, tyName M d = some t
theorem whole_t {M : MH} {d : D} {t : String} (h : tyName M d = some t) (n : t ≠ "int") : m_is_whole [d] M = .ok (.bl false) M := by
  by_cases b : t = "bool"
  · subst b
    cases d <;> simp [tyName] at h
    · exact whole_bl
    · split at h <;> simp at h
  · refine whole_no h ?_
    simp [isB, n, b]
theorem int_of {M : MH} {d : D} (h : tyName M d = some "int") : ∃ i, d = .int i := by
  cases d <;> simp [tyName] at h
  · exact ⟨_, rfl⟩
  · split at h <;> simp at h
theorem is_byte {M : MH} {d : D} (h : Ty M d) : m_is_byte [d] M = .ok (.bl (byteD d)) M := by
  obtain ⟨t, h⟩ := h
  by_cases n : t = "int"
  · subst n
    obtain ⟨i, rfl⟩ := int_of h
    rw [m_is_byte_eq]
    have b : m_is_between [.int i, .int 0, .int 255] M = .ok (.bl (byteD (.int i))) M := by
      rw [m_is_between_eq]
      by_cases h0 : 0 ≤ i
      · by_cases h1 : i ≤ 255
        · have h2 : i < 256 := by omega
          simp [mFn, b_is_between, bCons, cRet, mAnd, mCall, aCons, aNil, mVar, callM, picks, pick, is_whole_i, truD, mChain, chainD, h0, h1, h2, byteD]
        · have h2 : ¬ i < 256 := by omega
          simp [mFn, b_is_between, bCons, cRet, mAnd, mCall, aCons, aNil, mVar, callM, picks, pick, is_whole_i, truD, mChain, chainD, h0, h1, h2, byteD]
      · simp [mFn, b_is_between, bCons, cRet, mAnd, mCall, aCons, aNil, mVar, callM, picks, pick, is_whole_i, truD, mChain, chainD, h0, byteD]
    simp [mFn, b_is_byte, bCons, cRet, mCall, aCons, aNil, mVar, mC, callM, picks, pick, b]
  · have w := whole_t h n
    have e : byteD d = false := by
      cases d <;> simp [byteD]
      simp [tyName] at h
      exact absurd h.symm n
    rw [m_is_byte_eq]
    have b : m_is_between [d, .int 0, .int 255] M = .ok (.bl false) M := by
      rw [m_is_between_eq]
      simp [mFn, b_is_between, bCons, cRet, mAnd, mCall, aCons, aNil, mVar, callM, picks, pick, w, truD]
    simp [mFn, b_is_byte, bCons, cRet, mCall, aCons, aNil, mVar, mC, callM, picks, pick, b, e]
theorem l_is_byte {M : MH} {d : D} (h : Ty M d) : m_law_is_byte [d] M = .ok (.bl (byteD d)) M := by
  obtain ⟨t, h⟩ := h
  rw [m_law_is_byte_eq]
  by_cases n : t = "int"
  · subst n
    obtain ⟨i, rfl⟩ := int_of h
    by_cases h0 : 0 ≤ i
    · simp [mFn, b_law_is_byte, bCons, cRet, mAnd, mN, m1, notD, aCons, aNil, mVar, mC, isiD, tyName, tyNames, isB, truD, mChain, chainD, h0, byteD]
    · simp [mFn, b_law_is_byte, bCons, cRet, mAnd, mN, m1, notD, aCons, aNil, mVar, mC, isiD, tyName, tyNames, isB, truD, mChain, chainD, h0, byteD]
  · have e : byteD d = false := by
      cases d <;> simp [byteD]
      simp [tyName] at h
      exact absurd h.symm n
    have n' : (t == "int") = false := by simpa using n
    by_cases b : t = "bool"
    · subst b
      simp [mFn, b_law_is_byte, bCons, cRet, mAnd, mN, m1, notD, aCons, aNil, mVar, mC, isiD, h, tyNames, isB, truD, e]
    · have b' : (t == "bool") = false := by simpa using b
      simp [mFn, b_law_is_byte, bCons, cRet, mAnd, mN, m1, notD, aCons, aNil, mVar, mC, isiD, h, tyNames, isB, truD, e, n', b']
/-- a text that can be looked at -/
def Good (z : Str) : Prop := z.length ≤ 1000 ∧ ∀ c ∈ z.cps.toList, c < 1114112
/-- what is looked at -/
def Item (M : MH) (d : D) : Prop := Ty M d ∧ (∀ ds, d = .tup ds → ds.length < 1000 ∧ ∀ x ∈ ds, Ty M x ∧ flat x 60 = true) ∧ ∀ z, d = .str z → Good z
theorem flats_of {ds : List D} {n : Nat} (h : ∀ x ∈ ds, flat x n = true) : flats ds n = true := by
  induction ds with
  | nil => rfl
  | cons d ds ih =>
    show (flat d n && flats ds n) = true
    rw [h d (List.mem_cons_self ..), ih fun x hx => h x (List.mem_cons_of_mem _ hx)]
    rfl
mutual
theorem flat_up : ∀ (d : D) (n m : Nat), flat d n = true → n ≤ m → flat d m = true
  | .non, _, _, _, _ => rfl
  | .bl _, _, _, _, _ => rfl
  | .int _, _, _, _, _ => rfl
  | .str x, _, _, h, _ => by simpa [flat] using h
  | .tup ds, n, m, h, k => by
    simp only [flat, Bool.and_eq_true, decide_eq_true_eq] at h ⊢
    exact ⟨by omega, flats_up ds _ _ h.2 (by omega)⟩
  | .lst ds, n, m, h, k => by
    simp only [flat, Bool.and_eq_true, decide_eq_true_eq] at h ⊢
    exact ⟨by omega, flats_up ds _ _ h.2 (by omega)⟩
  | .ty _, _, _, h, _ => by simp [flat] at h
  | .adr _, _, _, h, _ => by simp [flat] at h
  | .ref _, _, _, h, _ => by simp [flat] at h
  | .dct _ _, _, _, h, _ => by simp [flat] at h
  | .fn _, _, _, h, _ => by simp [flat] at h
  | .exo _ _ _ _, _, _, h, _ => by simp [flat] at h
theorem flats_up : ∀ (ds : List D) (n m : Nat), flats ds n = true → n ≤ m → flats ds m = true
  | [], _, _, _, _ => rfl
  | d :: ds, n, m, h, k => by
    simp only [flats, Bool.and_eq_true] at h ⊢
    exact ⟨flat_up d n m h.1 k, flats_up ds n m h.2 k⟩
end
/-- xs == [] -/
theorem eq_nil (ds : List D) (h : ∀ x ∈ ds, flat x 60 = true) (M : MH) : eqD (.lst ds) (.lst []) M = .ok (.bl ds.isEmpty) M := by
  have f : flat (.lst ds) 64 = true := by
    simp only [flat, Bool.and_eq_true, decide_eq_true_eq]
    exact ⟨by decide, flats_of fun x hx => flat_up x 60 63 (h x hx) (by decide)⟩
  unfold eqD
  rw [if_pos (by unfold likeD; rw [f]; simp [isStr, flat, flats])]
  cases ds <;> simp [deq, py, pys, PyData.eqv, PyData.eqvAll]
theorem all_not {p : D → Bool} (ds : List D) : (ds.filter fun x => !p x).isEmpty = ds.all p := by
  induction ds with
  | nil => rfl
  | cons d ds ih =>
    rw [List.filter_cons, List.all_cons]
    cases p d <;> simp [ih]
theorem allD_map (p : D → Bool) (ds : List D) (M : MH) : allD [.lst (ds.map fun x => .bl (p x))] M = .ok (.bl (ds.all p)) M := by
  have e : blsD (ds.map fun x => .bl (p x)) = some (ds.map p) := by
    rw [show (ds.map fun x => D.bl (p x)) = (ds.map p).map D.bl by simp]
    exact blsD_map _
  unfold allD
  simp only [e]
  rw [List.all_map]
  rfl
/-- whether it is bytes -/
def bytesD : D → Bool
  | .tup ds => ds.all byteD
  | _ => false
theorem not_tup {M : MH} {d : D} {t : String} (h : tyName M d = some t) (n : ∀ ds, d ≠ .tup ds) : isB t "tuple" = false ∧ bytesD d = false := by
  cases d <;> simp [tyName] at h
  any_goals (subst h; exact ⟨by decide, rfl⟩)
  · refine ⟨?_, rfl⟩
    split at h <;> simp at h <;> (subst h; decide)
  · exact absurd rfl (n _)
theorem is_bytes {M : MH} {d : D} (h : Item M d) : m_is_bytes [d] M = .ok (.bl (bytesD d)) M := by
  obtain ⟨⟨t, ht⟩, h1, _⟩ := h
  rw [m_is_bytes_eq]
  by_cases n : ∃ ds, d = .tup ds
  · obtain ⟨ds, rfl⟩ := n
    obtain ⟨hl, hx⟩ := h1 ds rfl
    have g : lcGo (lcOne (gNam 1) mYes p_is_bytes_C0 [some (.tup ds), none]) ds M = .ok (ds.map fun x => .bl (byteD x)) M := lcGo_all (h := fun x => .bl (byteD x)) fun x hm => by
      have b := is_byte (hx x hm).1
      simp [lcOne, gNam, mYes, noX, p_is_bytes_C0, mCall, aCons, aNil, mVar, callM, picks, pick, b]
    have hl2 : ds.length < 1000000 := by omega
    simp [mFn, b_is_bytes, bCons, cRet, mAnd, mN, aCons, aNil, mVar, mC, isiD, tyName, tyNames, isB, truD, mLc, mItems, itemsD, hl2, lim_n, wipeE, g, allD_map, bytesD]
  · obtain ⟨e1, e2⟩ := not_tup ht fun ds e => n ⟨ds, e⟩
    simp [mFn, b_is_bytes, bCons, cRet, mAnd, mN, aCons, aNil, mVar, mC, isiD, ht, tyNames, e1, truD, e2]
/-! words -/
theorem lett : (PySem.Str.ofString "abcdefghijklmnopqrstuvwxyz").cps.toList = [97, 98, 99, 100, 101, 102, 103, 104, 105, 106, 107, 108, 109, 110, 111, 112, 113, 114, 115, 116, 117, 118, 119, 120, 121, 122] := by decide +kernel
def low (c : Nat) : Bool := decide (c ∈ (PySem.Str.ofString "abcdefghijklmnopqrstuvwxyz").cps.toList)
def lowD : D → Bool
  | .str t => match t.cps.toList with
    | [c] => low c
    | _ => false
  | _ => false
def wordD : D → Bool
  | .str z => decide (1 ≤ z.length ∧ z.length ≤ 8) && z.cps.toList.all low
  | _ => false
theorem signs_low (z : Str) : (Mi.signs z).all lowD = z.cps.toList.all low := by
  unfold Mi.signs
  rw [List.all_map]
  rfl
theorem signs_flat {z : Str} (h : Good z) : ∀ x ∈ Mi.signs z, flat x 60 = true := fun x hx => by
  unfold Mi.signs at hx
  obtain ⟨c, hc, rfl⟩ := List.mem_map.mp hx
  have := h.2 c hc
  simp [flat, PyData.strOk, this]
theorem sign_in {x : D} {z : Str} (h : x ∈ Mi.signs z) (neg : Bool) (M : MH) : inD neg x (.str (PySem.Str.ofString "abcdefghijklmnopqrstuvwxyz")) M = .ok (.bl (lowD x != neg)) M := by
  unfold Mi.signs at h
  obtain ⟨c, hc, rfl⟩ := List.mem_map.mp h
  simp [inD, lowD, low]
theorem not_str {M : MH} {d : D} {t : String} (h : tyName M d = some t) (n : ∀ z, d ≠ .str z) : isB t "str" = false ∧ wordD d = false := by
  cases d <;> simp [tyName] at h
  any_goals (subst h; exact ⟨by decide, rfl⟩)
  · exact absurd rfl (n _)
  · refine ⟨?_, rfl⟩
    split at h <;> simp at h <;> (subst h; decide)
theorem len_ok {z : Str} (h : Good z) : z.length ≤ 1000000 := by
  have := h.1
  omega
theorem is_word {M : MH} {d : D} (h : Item M d) : m_is_word [d] M = .ok (.bl (wordD d)) M := by
  obtain ⟨⟨t, ht⟩, _, h2⟩ := h
  rw [m_is_word_eq]
  by_cases n : ∃ z, d = .str z
  · obtain ⟨z, rfl⟩ := n
    have gz := h2 z rfl
    have hl := len_ok gz
    have g : lcGo (lcOne (gNam 1) mYes p_is_word_C0 [some (.str z), none]) (Mi.signs z) M = .ok ((Mi.signs z).map fun x => .bl (lowD x)) M := lcGo_all (h := fun x => .bl (lowD x)) fun x hm => by
      have b := sign_in hm false M
      simp [lcOne, gNam, mYes, noX, p_is_word_C0, m2, mC, mVar, b]
    have hs : (Mi.signs z).length < 1000000 := by
      rw [Mi.signs_len]
      have := gz.1
      show z.length < 1000000
      omega
    by_cases c1 : 1 ≤ z.length
    · have c1' : (1 : Int) ≤ (z.length : Int) := by omega
      by_cases c2 : z.length ≤ 8
      · have c2' : (z.length : Int) ≤ 8 := by omega
        simp [mFn, b_is_word, bCons, cRet, mAnd, mN, aCons, aNil, mVar, mC, isiD, tyName, tyNames, isB, truD, mChain, chainD, lenD, lim_n, hl, c1', c2', mLc, mItems, itemsD, hs, wipeE, g, allD_map, wordD, c1, c2, signs_low]
      · have c2' : ¬ (z.length : Int) ≤ 8 := by omega
        simp [mFn, b_is_word, bCons, cRet, mAnd, mN, aCons, aNil, mVar, mC, isiD, tyName, tyNames, isB, truD, mChain, chainD, lenD, lim_n, hl, c1', c2', wordD, c1, c2]
    · have c1' : ¬ (1 : Int) ≤ (z.length : Int) := by omega
      simp [mFn, b_is_word, bCons, cRet, mAnd, mN, aCons, aNil, mVar, mC, isiD, tyName, tyNames, isB, truD, mChain, chainD, lenD, lim_n, hl, c1', wordD, c1]
  · obtain ⟨e1, e2⟩ := not_str ht fun ds e => n ⟨ds, e⟩
    simp [mFn, b_is_word, bCons, cRet, mAnd, mN, aCons, aNil, mVar, mC, isiD, ht, tyNames, e1, truD, e2]
theorem l_word {M : MH} {d : D} (h : Item M d) : m_law_word_so [d] M = .ok (.bl (wordD d)) M := by
  obtain ⟨⟨t, ht⟩, _, h2⟩ := h
  rw [m_law_word_so_eq]
  by_cases n : ∃ z, d = .str z
  · obtain ⟨z, rfl⟩ := n
    have gz := h2 z rfl
    have hl := len_ok gz
    have g : lcGo (lcOne (gNam 2) p_law_word_so_T1 p_law_word_so_C0 [some (.str z), some (.str (PySem.Str.ofString "abcdefghijklmnopqrstuvwxyz")), none]) (Mi.signs z) M = .ok ((Mi.signs z).filter fun x => !lowD x) M := lcGo_fm (p := fun x => !lowD x) fun x hm => by
      have b := sign_in hm true M
      cases q : lowD x <;> simp [lcOne, gNam, noX, p_law_word_so_C0, p_law_word_so_T1, mB, m2, mC, mVar, b, q]
    have hs : (Mi.signs z).length < 1000000 := by
      rw [Mi.signs_len]
      have := gz.1
      show z.length < 1000000
      omega
    have fe : eqD (.lst ((Mi.signs z).filter fun x => !lowD x)) (.lst []) M = .ok (.bl (z.cps.toList.all low)) M := by
      rw [eq_nil _ (fun x hx => signs_flat gz x (List.mem_filter.mp hx).1), all_not, signs_low]
    by_cases c1 : 1 ≤ z.length
    · have c1' : (1 : Int) ≤ (z.length : Int) := by omega
      by_cases c2 : z.length ≤ 8
      · have c2' : (z.length : Int) ≤ 8 := by omega
        simp [mFn, b_law_word_so, bCons, cRet, cAsg, gNam, mAnd, mN, m2, lstD, aCons, aNil, mVar, mC, isiD, tyName, tyNames, isB, truD, mChain, chainD, lenD, lim_n, hl, c1', c2', mLc, mItems, itemsD, hs, wipeE, g, fe, wordD, c1, c2]
      · have c2' : ¬ (z.length : Int) ≤ 8 := by omega
        simp [mFn, b_law_word_so, bCons, cRet, cAsg, gNam, mAnd, mN, aCons, aNil, mVar, mC, isiD, tyName, tyNames, isB, truD, mChain, chainD, lenD, lim_n, hl, c1', c2', wordD, c1, c2]
    · have c1' : ¬ (1 : Int) ≤ (z.length : Int) := by omega
      simp [mFn, b_law_word_so, bCons, cRet, cAsg, gNam, mAnd, mN, aCons, aNil, mVar, mC, isiD, tyName, tyNames, isB, truD, mChain, chainD, lenD, lim_n, hl, c1', wordD, c1]
  · obtain ⟨e1, e2⟩ := not_str ht fun ds e => n ⟨ds, e⟩
    simp [mFn, b_law_word_so, bCons, cRet, cAsg, gNam, mAnd, mN, aCons, aNil, mVar, mC, isiD, ht, tyNames, e1, truD, e2]
end K01

end

section
set_option maxHeartbeats 4000000
namespace K01
open PySem PySem.Spec PyProof.Rows L2 Mi
def wholeD : D → Bool
  | .int _ => true
  | _ => false
theorem is_whole {M : MH} {d : D} (h : Ty M d) : m_is_whole [d] M = .ok (.bl (wholeD d)) M := by
  obtain ⟨t, h⟩ := h
  by_cases n : t = "int"
  · subst n
    obtain ⟨i, rfl⟩ := int_of h
    exact is_whole_i i M
  · rw [whole_t h n]
    cases d <;> simp [wholeD]
    simp [tyName] at h
    exact absurd h.symm n
theorem l_whole {M : MH} {d : D} (h : Ty M d) (env : En) (hv : mVar 2 env M = .ok d M) : mAnd (mN isiD (aCons (mVar 2) (aCons (mC (.ty "int")) (aNil)))) (m1 notD (mN isiD (aCons (mVar 2) (aCons (mC (.ty "bool")) (aNil))))) env M = .ok (.bl (wholeD d)) M := by
  obtain ⟨t, h⟩ := h
  by_cases n : t = "int"
  · subst n
    obtain ⟨i, rfl⟩ := int_of h
    simp [mAnd, mN, m1, notD, aCons, aNil, hv, mC, isiD, tyName, tyNames, isB, truD, wholeD]
  · have e : wholeD d = false := by
      cases d <;> simp [wholeD]
      simp [tyName] at h
      exact absurd h.symm n
    have n' : (t == "int") = false := by simpa using n
    by_cases b : t = "bool"
    · subst b
      simp [mAnd, mN, m1, notD, aCons, aNil, hv, mC, isiD, h, tyNames, isB, truD, e]
    · have b' : (t == "bool") = false := by simpa using b
      simp [mAnd, mN, m1, notD, aCons, aNil, hv, mC, isiD, h, tyNames, isB, truD, e, n', b']
theorem l_bytes {M : MH} {d : D} (h : Item M d) (o0 o1 o3 o4 o5 o6 : Option D) :
    mAnd (mN isiD (aCons (mVar 2) (aCons (mC (.ty "tuple")) (aNil)))) (m2 eqD (mLc (mItems (mVar 2)) (gNam 6) (p_law_looks_right_T1) (p_law_looks_right_C0) [6]) (mN lstD (aNil))) [o0, o1, some d, o3, o4, o5, o6] M = .ok (.bl (bytesD d)) M := by
  obtain ⟨⟨t, ht⟩, h1, _⟩ := h
  by_cases n : ∃ ds, d = .tup ds
  · obtain ⟨ds, rfl⟩ := n
    obtain ⟨hl, hx⟩ := h1 ds rfl
    have g : lcGo (lcOne (gNam 6) p_law_looks_right_T1 p_law_looks_right_C0 [o0, o1, some (.tup ds), o3, o4, o5, none]) ds M = .ok (ds.filter fun x => !byteD x) M := lcGo_fm (p := fun x => !byteD x) fun x hm => by
      have b := l_is_byte (hx x hm).1
      cases q : byteD x <;> simp [lcOne, gNam, noX, p_law_looks_right_T1, p_law_looks_right_C0, mNotT, mTru, mCall, aCons, aNil, mVar, callM, picks, pick, b, q, truD]
    have hl2 : ds.length < 1000000 := by omega
    have fe : eqD (.lst (ds.filter fun x => !byteD x)) (.lst []) M = .ok (.bl (ds.all byteD)) M := by
      rw [eq_nil _ (fun x hx' => (hx x (List.mem_filter.mp hx').1).2), all_not]
    simp [mAnd, mN, m2, lstD, aCons, aNil, mVar, mC, isiD, tyName, tyNames, isB, truD, mLc, mItems, itemsD, hl2, lim_n, wipeE, g, fe, bytesD]
  · obtain ⟨e1, e2⟩ := not_tup ht fun ds e => n ⟨ds, e⟩
    simp [mAnd, mN, aCons, aNil, mVar, mC, isiD, ht, tyNames, e1, truD, e2]
theorem repr5 (b w x : Bool) : ∃ s : Str, ∀ M, reprD [.lst [.bl b, .bl b, .bl w, .bl x, .bl x]] M = .ok (.str s) M := by
  have h : shows (.lst [.bl b, .bl b, .bl w, .bl x, .bl x]) = true := by
    cases b <;> cases w <;> cases x <;> decide +kernel
  refine ⟨PyData.shown (py (.lst [.bl b, .bl b, .bl w, .bl x, .bl x])), fun M => ?_⟩
  unfold reprD
  simp only [seqLike, h, Bool.and_self, if_true]
theorem neS (s : Str) (M : MH) : neD (.str s) (.str s) M = .ok (.bl false) M := by
  unfold neD
  rw [if_pos (by rfl)]
  simp [deq, py, PyData.eqv]
theorem look_step {M : MH} {d : D} (h : Item M d) (o0 o1 o3 o4 o5 o6 : Option D) : ∃ q3 q4 q5, p_law_looks_right_L2 [o0, o1, some d, o3, o4, o5, o6] M = .nx [o0, o1, some d, q3, q4, q5, o6] M := by
  obtain ⟨s, hs⟩ := repr5 (bytesD d) (wholeD d) (wordD d)
  refine ⟨some (.bl (bytesD d)), some (.bl (wholeD d)), some (.lst [.bl (bytesD d), .bl (bytesD d), .bl (wholeD d), .bl (wordD d), .bl (wordD d)]), ?_⟩
  have b1 := l_bytes h o0 o1 o3 o4 o5 o6
  have b2 := l_whole h.1 [o0, o1, some d, some (.bl (bytesD d)), o4, o5, o6] rfl
  have c1 := is_bytes h
  have c2 := is_whole h.1
  have c3 := is_word h
  have c4 := l_word h
  unfold p_law_looks_right_L2
  rw [show bCons (cAsg (mAnd (mN isiD (aCons (mVar 2) (aCons (mC (.ty "tuple")) (aNil)))) (m2 eqD (mLc (mItems (mVar 2)) (gNam 6) (p_law_looks_right_T1) (p_law_looks_right_C0) [6]) (mN lstD (aNil)))) (gNam 3)) _ [o0, o1, some d, o3, o4, o5, o6] M = _ from rfl]
  unfold bCons cAsg
  rw [b1]
  simp only [andS_ok, gNam, List.set_cons_succ, List.set_cons_zero, RS.bind_nx]
  rw [b2]
  simp [mN, lstD, lim_n, mCall, aCons, aNil, mVar, callM, picks, pick, c1, c2, c3, c4, hs, neS, cIf, mB, m2, bNil]
/-! what is looked at -/
def Plain (d : D) : Prop := (∀ M, Ty M d) ∧ flat d 60 = true
theorem pl_int (i : Int) : Plain (.int i) := ⟨fun _ => ⟨_, rfl⟩, rfl⟩
theorem pl_bl (i : Bool) : Plain (.bl i) := ⟨fun _ => ⟨_, rfl⟩, rfl⟩
theorem pl_non : Plain .non := ⟨fun _ => ⟨_, rfl⟩, rfl⟩
theorem pl_str {z : Str} (h : Good z) : Plain (.str z) := ⟨fun _ => ⟨_, rfl⟩, by
  simp only [flat, PyData.strOk, Array.all_eq_true]
  intro i hi
  exact decide_eq_true (h.2 _ (by simp [Array.getElem_mem hi]))⟩
theorem pl_tup (bs : List Int) : Plain (.tup (bs.map D.int)) := ⟨fun _ => ⟨_, rfl⟩, by
  simp only [flat, flats_ints, Bool.and_true]
  decide⟩
/-- an item wherever -/
def It0 (d : D) : Prop := ∀ M, Item M d
theorem it_tup {ds : List D} (hl : ds.length < 1000) (h : ∀ x ∈ ds, Plain x) : It0 (.tup ds) := fun M => ⟨⟨_, rfl⟩, fun es e => by
  cases e
  exact ⟨hl, fun x hx => ⟨(h x hx).1 M, (h x hx).2⟩⟩, fun z e => by cases e⟩
theorem it_str {z : Str} (h : Good z) : It0 (.str z) := fun M => ⟨⟨_, rfl⟩, fun es e => (by cases e), fun y e => by cases e; exact h⟩
theorem it_lst (ds : List D) : It0 (.lst ds) := fun M => ⟨⟨_, rfl⟩, fun es e => (by cases e), fun y e => by cases e⟩
theorem it_int (i : Int) : It0 (.int i) := fun M => ⟨⟨_, rfl⟩, fun es e => (by cases e), fun y e => by cases e⟩
theorem it_bl (i : Bool) : It0 (.bl i) := fun M => ⟨⟨_, rfl⟩, fun es e => (by cases e), fun y e => by cases e⟩
theorem it_non : It0 .non := fun M => ⟨⟨_, rfl⟩, fun es e => (by cases e), fun y e => by cases e⟩
theorem it_ref {M : MH} {l : Nat} {kvs : List (Key × D)} (h : M[l]? = some (.dct kvs)) : Item M (.ref l) := ⟨⟨"dict", by simp [tyName, h]⟩, fun es e => (by cases e), fun y e => by cases e⟩
theorem good_lit {z : Str} (h : z.length ≤ 1000) (g : z.cps.toList.all (fun c => decide (c < 1114112)) = true) : Good z := ⟨h, fun c hc => by simpa using List.all_eq_true.mp g c hc⟩
theorem good_app {a b : Str} (ha : Good a) (hb : Good b) (hl : a.length + b.length ≤ 1000) : Good (a ++ b) := ⟨by rw [Str.length_append]; exact hl, fun c hc => by
  have e : (a ++ b).cps.toList = a.cps.toList ++ b.cps.toList := by
    show (a.cps ++ b.cps).toList = _
    simp
  rw [e] at hc
  rcases List.mem_append.mp hc with h | h
  · exact ha.2 c h
  · exact hb.2 c h⟩
theorem good_cut {a : Str} (ha : Good a) (lo hi : Option Int) : Good (cutS a lo hi) := ⟨by
  have h := ha.1
  unfold cutS
  show (Array.size _) ≤ 1000
  simp only [List.size_toArray, List.length_take, List.length_drop]
  have : a.cps.toList.length = a.length := by simp [Str.length]
  omega, fun c hc => by
  unfold cutS at hc
  exact ha.2 c (List.mem_of_mem_drop (List.mem_of_mem_take (by simpa using hc)))⟩
theorem pw30 (M : MH) : powD (.int 10) (.int 30) M = .ok (.int 1000000000000000000000000000000) M := by rfl
theorem mem_line {bs : List Int} {x : D} (h : x ∈ bs.map D.int) : Plain x := by
  obtain ⟨i, _, rfl⟩ := List.mem_map.mp h
  exact pl_int i
theorem items {bs : List Int} {l : Nat} {n : Int} {M : MH} (hl : bs.length < 10) (hm : M[l]? = some (.lst [.int n])) : ∃ its M', m_law_items [.ref l, .tup (bs.map D.int)] M = .ok (.lst its) M' ∧ its.length < 100 ∧ (∃ n', M'[l]? = some (.lst [.int n'])) ∧ ∃ j, j ≠ l ∧ M'[j]? = some (.dct []) ∧ ∀ d ∈ its, It0 d ∨ d = .ref j := by
  have hlen : l < M.length := (List.getElem?_eq_some_iff.mp hm).1
  have hm2 : (M ++ [MO.dct []])[l]? = some (.lst [.int n]) := get_front hm
  have dg := digit (w := 300) (k := 10) (by decide) (by decide) (by decide) (by decide) hm2
  have h1 : bs.length + 1 ≤ 1000000 := by omega
  have r : m_law_items [.ref l, .tup (bs.map D.int)] M = .ok (.lst [.tup (bs.map D.int), .lst (bs.map D.int), .tup (bs.map D.int ++ [.int 256]), .tup (bs.map D.int ++ [.int (-1)]), .tup (bs.map D.int ++ [.bl true]), .tup [.non], .non, .int 5, .str "ab", .tup (bs.map D.int ++ [.str "1"]), .tup [],
      .tup [.tup (bs.map D.int)], .ref M.length, .tup (Mi.cutD (bs.map D.int) none (some 1)), .bl true, .int 0, .int (-7), .int 1000000000000000000000000000000, .tup [.int (n % 300)]]) ((M ++ [MO.dct []]).set l (.lst [.int (n / 300)])) := by
    rw [m_law_items_eq]
    simp [mFn, b_law_items, bCons, cAsg, gNam, cRet, m2, mN, m1, lstD, tupD, aCons, aNil, mVar, mC, Mi.listOfD, addD, negD, lim_n, h1, mDct0, mSl, mNoP, mPart, sliceD, mCall, callM, picks, pick, dg, pw30]
  refine ⟨_, _, r, by simp, ⟨_, set_get hm2⟩, M.length, by omega, ?_, ?_⟩
  · rw [List.getElem?_set_ne (by omega)]
    exact get_last
  · intro d hd
    have app : ∀ x : D, Plain x → It0 (.tup (bs.map D.int ++ [x])) := fun x px => it_tup (by simp; omega) fun y hy => by
      rcases List.mem_append.mp hy with h | h
      · exact mem_line h
      · rw [List.mem_singleton.mp h]; exact px
    have gab : Good "ab" := good_lit (by decide) (by decide +kernel)
    have g1 : Good "1" := good_lit (by decide) (by decide +kernel)
    simp only [List.mem_cons, List.not_mem_nil, or_false] at hd
    rcases hd with rfl | rfl | rfl | rfl | rfl | rfl | rfl | rfl | rfl | rfl | rfl | rfl | rfl | rfl | rfl | rfl | rfl | rfl | rfl
    · exact .inl (it_tup (by simp; omega) fun x hx => mem_line hx)
    · exact .inl (it_lst _)
    · exact .inl (app _ (pl_int _))
    · exact .inl (app _ (pl_int _))
    · exact .inl (app _ (pl_bl _))
    · exact .inl (it_tup (by simp) fun x hx => by rw [List.mem_singleton.mp hx]; exact pl_non)
    · exact .inl it_non
    · exact .inl (it_int _)
    · exact .inl (it_str gab)
    · exact .inl (app _ (pl_str g1))
    · exact .inl (it_tup (by simp) fun x hx => by simp at hx)
    · exact .inl (it_tup (by simp) fun x hx => by rw [List.mem_singleton.mp hx]; exact pl_tup bs)
    · exact .inr rfl
    · refine .inl (it_tup ?_ fun x hx => ?_)
      · unfold Mi.cutD
        rw [List.length_take, List.length_drop, List.length_map]
        omega
      · unfold Mi.cutD at hx
        exact mem_line (List.mem_of_mem_drop (List.mem_of_mem_take hx))
    · exact .inl (it_bl _)
    · exact .inl (it_int _)
    · exact .inl (it_int _)
    · exact .inl (it_int _)
    · exact .inl (it_tup (by simp) fun x hx => by rw [List.mem_singleton.mp hx]; exact pl_int _)
end K01

end

section
set_option maxHeartbeats 4000000
namespace K01
open PySem PySem.Spec PyProof.Rows L2 Mi
def LET : Str := PySem.Str.ofString "abcdefghijklmnopqrstuvwxyz"
theorem let_at (n : Int) : ∃ c, atI LET.cps.toList (n % 26) = some c ∧ c < 1114112 := by
  have h0 : 0 ≤ n % 26 := Int.emod_nonneg _ (by decide)
  have h1 : n % 26 < 26 := Int.emod_lt_of_pos _ (by decide)
  have hl : LET.cps.toList.length = 26 := by decide +kernel
  have ha : LET.cps.toList.all (fun c => decide (c < 1114112)) = true := by decide +kernel
  have hi : (n % 26).toNat < LET.cps.toList.length := by omega
  refine ⟨LET.cps.toList[(n % 26).toNat], ?_, ?_⟩
  · have := atI_at (List.getElem?_eq_getElem hi)
    rwa [show ((n % 26).toNat : Int) = n % 26 by omega] at this
  · simpa using List.all_eq_true.mp ha _ (List.getElem_mem hi)
theorem let_len : LET.length ≤ 1000000 := by decide +kernel
theorem letters {l : Nat} (o : Option D) : ∀ (xs : List D) (n : Int) (M : MH), M[l]? = some (.lst [.int n]) → ∃ (ss : List Str) (M' : MH) (n' : Int), lcGo (lcOne (gNam 3) mYes p_law_words_C0 [some (.ref l), some (.str LET), o, none]) xs M = .ok (ss.map D.str) M' ∧ ss.length = xs.length ∧ (∀ s ∈ ss, s.length = 1 ∧ Good s) ∧ M'[l]? = some (.lst [.int n']) ∧ ∀ j, j ≠ l → M'[j]? = M[j]?
  | [], n, M, hm => ⟨[], M, n, rfl, rfl, fun s h => (by cases h), hm, fun _ _ => rfl⟩
  | x :: xs, n, M, hm => by
    obtain ⟨c, hc, hc2⟩ := let_at n
    have dg := digit (w := 26) (k := 10) (by decide) (by decide) (by decide) (by decide) hm
    obtain ⟨ss, M', n', r, r1, r2, r3, r4⟩ := letters o xs (n / 26) _ (set_get (v := .lst [.int (n / 26)]) hm)
    refine ⟨⟨#[c]⟩ :: ss, M', n', ?_, by simp [r1], ?_, r3, fun j hj => by rw [r4 j hj, List.getElem?_set_ne (Ne.symm hj)]⟩
    · have one : lcOne (gNam 3) mYes p_law_words_C0 [some (.ref l), some (.str LET), o, none] x M = .ok (some (.str ⟨#[c]⟩)) (M.set l (.lst [.int (n / 26)])) := by
        simp [lcOne, gNam, mYes, noX, p_law_words_C0, m2, mCall, aCons, aNil, mVar, mC, callM, picks, pick, dg, ixD, hc, let_len, lim_n]
      unfold lcGo
      rw [one]
      simp only [R.bind_ok]
      rw [r]
      rfl
    · intro s hs
      rcases List.mem_cons.mp hs with rfl | h
      · exact ⟨rfl, by show 1 ≤ 1000; decide, fun d hd => by
          have : d = c := by simpa using hd
          omega⟩
      · exact r2 s h
theorem good_nil : Good (PySem.Str.ofString "") := good_lit (by decide +kernel) (by decide +kernel)
theorem join_good : ∀ (ss : List Str), (∀ s ∈ ss, s.length = 1 ∧ Good s) → ss.length ≤ 100 → Good (Txt.join (PySem.Str.ofString "") ss) ∧ (Txt.join (PySem.Str.ofString "") ss).length = ss.length
  | [], _, _ => ⟨good_lit (by decide +kernel) (by decide +kernel), by decide +kernel⟩
  | [s], h, _ => ⟨(h s (List.mem_cons_self ..)).2, (h s (List.mem_cons_self ..)).1⟩
  | s :: t :: ss, h, hl => by
    obtain ⟨g, e⟩ := join_good (t :: ss) (fun x hx => h x (List.mem_cons_of_mem _ hx)) (by simp at hl ⊢; omega)
    obtain ⟨h1, h2⟩ := h s (List.mem_cons_self ..)
    have e0 : (PySem.Str.ofString "").length = 0 := by decide +kernel
    have g0 : Good (s ++ PySem.Str.ofString "") := good_app h2 good_nil (by rw [h1, e0]; decide)
    have l0 : (s ++ PySem.Str.ofString "").length = 1 := by rw [Str.length_append, h1, e0]
    have ej : Txt.join (PySem.Str.ofString "") (s :: t :: ss) = (s ++ PySem.Str.ofString "") ++ Txt.join (PySem.Str.ofString "") (t :: ss) := by
      rw [TL.join_eq, TL.join_eq]
      rfl
    rw [ej]
    refine ⟨good_app g0 g (by rw [l0, e]; simp at hl ⊢; omega), ?_⟩
    rw [Str.length_append, l0, e]
    simp only [List.length_cons]
    omega
theorem strs_map (ss : List Str) : strsD (ss.map D.str) = some ss := by
  induction ss with
  | nil => rfl
  | cons s ss ih =>
    show (strsD (ss.map D.str)).map (s :: ·) = _
    rw [ih]
    rfl
theorem sum_ones (ss : List Str) (h : ∀ s ∈ ss, s.length = 1 ∧ Good s) : (ss.map (·.length)).sum = ss.length := by
  induction ss with
  | nil => rfl
  | cons s ss ih =>
    rw [List.map_cons, List.sum_cons, ih fun x hx => h x (List.mem_cons_of_mem _ hx), (h s (List.mem_cons_self ..)).1, List.length_cons]
    omega
theorem words {l : Nat} {n : Int} {M : MH} (hm : M[l]? = some (.lst [.int n])) : ∃ ws M', m_law_words [.ref l] M = .ok (.lst ws) M' ∧ ws.length < 100 ∧ (∃ n', M'[l]? = some (.lst [.int n'])) ∧ (∀ j, j ≠ l → M'[j]? = M[j]?) ∧ ∀ d ∈ ws, It0 d := by
  have dg := digit (w := 9) (k := 10) (by decide) (by decide) (by decide) (by decide) hm
  have h0 : 0 ≤ n % 9 := Int.emod_nonneg _ (by decide)
  have h1 : n % 9 < 9 := Int.emod_lt_of_pos _ (by decide)
  have rgx : rng1D [.int (1 + n % 9)] (M.set l (.lst [.int (n / 9)])) = .ok (rangeL 0 (1 + n % 9).toNat) (M.set l (.lst [.int (n / 9)])) := rng1_n (by omega) (by omega)
  obtain ⟨ss, M', n', r, r1, r2, r3, r4⟩ := letters (l := l) none (rangeL 0 (1 + n % 9).toNat) (n / 9) _ (set_get (v := .lst [.int (n / 9)]) hm)
  rw [rangeL_len] at r1
  have hss : ss.length ≤ 9 := by omega
  obtain ⟨gw, lw⟩ := join_good ss r2 (by omega)
  have e0 : (PySem.Str.ofString "").length = 0 := by decide +kernel
  have su : (ss.map (·.length)).sum + ss.length * (PySem.Str.ofString "").length ≤ 1000000 := by
    rw [sum_ones ss r2, e0]
    omega
  generalize hw : Txt.join (PySem.Str.ofString "") ss = w at gw lw
  have jo : joinD (.str (PySem.Str.ofString "")) [.lst (ss.map D.str)] M' = .ok (.str w) M' := by
    unfold joinD
    simp only [strs_map]
    rw [if_pos su, hw]
  have hr : (rangeL 0 (1 + n % 9).toNat).length < 1000000 := by rw [rangeL_len]; omega
  have w6 : w.length ≤ 1000000 := by omega
  have gA : Good (PySem.Str.ofString "A") := good_lit (by decide +kernel) (by decide +kernel)
  have gN : Good (PySem.Str.ofString "\n") := good_lit (by decide +kernel) (by decide +kernel)
  have lA : (PySem.Str.ofString "A").length = 1 := by decide +kernel
  have lN : (PySem.Str.ofString "\n").length = 1 := by decide +kernel
  have wA : w.length + (PySem.Str.ofString "A").length ≤ 1000000 := by omega
  have wN : w.length + (PySem.Str.ofString "\n").length ≤ 1000000 := by omega
  have r' : lcGo (lcOne (gNam 3) mYes p_law_words_C0 [some (.ref l), some (.str (PySem.Str.ofString "abcdefghijklmnopqrstuvwxyz")), none, none]) (rangeL 0 (1 + n % 9).toNat) (M.set l (.lst [.int (n / 9)])) = .ok (ss.map D.str) M' := r
  have ev : m_law_words [.ref l] M = .ok (.lst [.str w, .str (cutS w none (some 8)), .str (w ++ PySem.Str.ofString "A"), .str (PySem.Str.ofString ""), .str (PySem.Str.ofString "a b"), .str (PySem.Str.ofString "a1"), .str (PySem.Str.ofString "\n"), .str (w ++ PySem.Str.ofString "\n"), .str (PySem.Str.ofString "abcdefgh"), .str (PySem.Str.ofString "abcdefghi"), .str (PySem.Str.ofString "_"), .tup [.str w]]) M' := by
    rw [m_law_words_eq]
    simp [mFn, b_law_words, bCons, cAsg, gNam, cRet, m2, mN, m1, mMt, rcv, lstD, tupD, aCons, aNil, mVar, mC, mI, mLc, addD, lim_n, mSl, mNoP, mPart, sliceD, mCall, callM, picks, pick, dg, rgx, hr, wipeE, r', jo, w6, wA, wN]
  refine ⟨_, _, ev, by simp, ⟨n', r3⟩, fun j hj => by rw [r4 j hj, List.getElem?_set_ne (Ne.symm hj)], fun d hd => ?_⟩
  simp only [List.mem_cons, List.not_mem_nil, or_false] at hd
  rcases hd with rfl | rfl | rfl | rfl | rfl | rfl | rfl | rfl | rfl | rfl | rfl | rfl
  · exact it_str gw
  · exact it_str (good_cut gw _ _)
  · exact it_str (good_app gw gA (by omega))
  · exact it_str good_nil
  · exact it_str (good_lit (by decide +kernel) (by decide +kernel))
  · exact it_str (good_lit (by decide +kernel) (by decide +kernel))
  · exact it_str gN
  · exact it_str (good_app gw gN (by omega))
  · exact it_str (good_lit (by decide +kernel) (by decide +kernel))
  · exact it_str (good_lit (by decide +kernel) (by decide +kernel))
  · exact it_str (good_lit (by decide +kernel) (by decide +kernel))
  · exact it_tup (by simp) fun x hx => by rw [List.mem_singleton.mp hx]; exact pl_str gw
theorem looks_right {bs : List Int} {l : Nat} {n : Int} {M : MH} (hl : bs.length < 10) (hm : M[l]? = some (.lst [.int n])) : ∃ M', m_law_looks_right [.ref l, .tup (bs.map D.int)] M = .ok (.bl true) M' := by
  obtain ⟨its, M1, r1, l1, ⟨n1, h1⟩, j, hj, hd, hi⟩ := items hl hm
  obtain ⟨ws, M2, r2, l2, _, k2, hw⟩ := words h1
  have hj2 : M2[j]? = some (.dct []) := by rw [k2 j hj]; exact hd
  have all : ∀ d ∈ its ++ ws, Item M2 d := fun d h => by
    rcases List.mem_append.mp h with h | h
    · rcases hi d h with h | rfl
      · exact h M2
      · exact it_ref hj2
    · exact hw d h M2
  have len : its.length + ws.length ≤ 1000000 := by omega
  obtain ⟨e2, M3, g1, g2⟩ := forGo_inv (g := gNam 2) (b := p_law_looks_right_L2) (fun i e M' => M' = M2 ∧ ∃ q2 q3 q4 q5 q6 : Option D, e = [some (.ref l), some (.tup (bs.map D.int)), q2, q3, q4, q5, q6]) (its ++ ws) 0 [some (.ref l), some (.tup (bs.map D.int)), none, none, none, none, none] M2 ⟨rfl, _, _, _, _, _, rfl⟩ fun i d e M' hd' hi' => by
    obtain ⟨rfl, q2, q3, q4, q5, q6, rfl⟩ := hi'
    obtain ⟨p3, p4, p5, s⟩ := look_step (all d (List.mem_of_getElem? hd')) (some (.ref l)) (some (.tup (bs.map D.int))) q3 q4 q5 q6
    exact ⟨_, _, _, rfl, .inl s, rfl, _, _, _, _, _, rfl⟩
  obtain ⟨rfl, q2, q3, q4, q5, q6, rfl⟩ := g2
  refine ⟨M3, ?_⟩
  have w3 : m_is_whole [.int 3] M3 = .ok (.bl true) M3 := is_whole_i 3 M3
  rw [m_law_looks_right_eq]
  simp [mFn, b_law_looks_right, bCons, cFor, mItems, m2, mCall, aCons, aNil, mVar, mC, callM, picks, pick, r1, r2, addD, lim_n, len, itemsD, g1, cRet, w3, isD]
end K01

end

section
set_option maxHeartbeats 4000000
namespace K01
open PySem PySem.Spec PyProof.Rows L2 Mi
theorem shl_top {k t : Int} (T : Top k t) (M : MH) : shlD (.int 1) (.int (8 * k)) M = .ok (.int t) M := by
  have h1 := T.k1
  have h4 := T.k4
  unfold shlD int2
  simp only
  rw [if_pos ⟨by omega, by omega, by decide⟩]
  simp [T.tp]
theorem pw40 (M : MH) : powD (.int 10) (.int 40) M = .ok (.int (10 ^ 40)) M := by rfl
/-- what the loop over numbers does, whatever stands above -/
theorem nums_loop {k t : Int} (T : Top k t) (ws : List Int) (hw : ∀ w ∈ ws, 0 ≤ w ∧ w < t) (o0 o1 o2 o5 o6 o7 o8 : Option D) (M : MH) : ∃ q5 q6 q7, forGo (gNam 5) p_law_L1 (ws.map D.int) [o0, o1, o2, some (.int k), some (.int t), o5, o6, o7, o8] M = .nx [o0, o1, o2, some (.int k), some (.int t), q5, q6, q7, o8] M := by
  obtain ⟨e2, M2, h1, h2⟩ := forGo_inv (g := gNam 5) (b := p_law_L1) (fun i e M1 => M1 = M ∧ ∃ q5 q6 q7 : Option D, e = [o0, o1, o2, some (.int k), some (.int t), q5, q6, q7, o8]) (ws.map D.int) 0 _ M ⟨rfl, o5, o6, o7, rfl⟩ fun i d e M1 hd hi => by
    obtain ⟨rfl, q5, q6, q7, rfl⟩ := hi
    obtain ⟨w, hw', rfl⟩ := map_int_get hd
    obtain ⟨w0, w1⟩ := hw w (List.mem_of_getElem? hw')
    obtain ⟨bs, N⟩ := num (k := k) (n := w) ⟨T.k1, T.k4⟩ w0 (by rw [← T.tp]; exact w1)
    obtain ⟨p6, p7, s⟩ := num_step N o0 o1 o2 (some (.int t)) q6 q7 o8 M1
    exact ⟨_, _, _, rfl, .inl s, rfl, _, _, _, rfl⟩
  obtain ⟨rfl, q5, q6, q7, rfl⟩ := h2
  exact ⟨q5, q6, q7, h1⟩
theorem refs_loop {k t : Int} (T : Top k t) (o0 o1 o2 o4 o5 o6 o7 o8 : Option D) (M : MH) : ∃ q6 q8, forGo (gNam 8) p_law_L3 [D.int t, .int (-1), .int (t + 255), .non, .bl true, .str "1", .tup [.int 1], .int (10 ^ 40), .lst [.int 0]] [o0, o1, o2, some (.int k), o4, o5, o6, o7, o8] M = .nx [o0, o1, o2, some (.int k), o4, o5, q6, o7, q8] M := by
  obtain ⟨e2, M2, h1, h2⟩ := forGo_inv (g := gNam 8) (b := p_law_L3) (fun i e M1 => M1 = M ∧ ∃ q6 q8 : Option D, e = [o0, o1, o2, some (.int k), o4, o5, q6, o7, q8]) [D.int t, .int (-1), .int (t + 255), .non, .bl true, .str "1", .tup [.int 1], .int (10 ^ 40), .lst [.int 0]] 0 _ M ⟨rfl, o6, o8, rfl⟩ fun i d e M1 hd hi => by
    obtain ⟨rfl, q6, q8, rfl⟩ := hi
    have s := ref_step (refs T M1 d (List.mem_of_getElem? hd)) o0 o1 o2 o4 o5 q6 o7
    exact ⟨_, _, _, rfl, .inl s, rfl, _, _, rfl⟩
  obtain ⟨rfl, q6, q8, rfl⟩ := h2
  exact ⟨q6, q8, h1⟩
/-- one cell, its great numbers as letters -/
theorem cell_core {c n k t : Int} {M : MH} (T : Top k t) (hk : 1 + n % 4 = k) (hl : m_law_left [.int c] M = .ok (.ref M.length) (M ++ [.lst [.int n]])) (o0 o2 o3 o4 o5 o6 o7 o8 : Option D) :
    ∃ q2 q3 q4 q5 q6 q7 q8 M', p_law_L4 [o0, some (.int c), o2, o3, o4, o5, o6, o7, o8] M = .nx [o0, some (.int c), q2, q3, q4, q5, q6, q7, q8] M' := by
  have k1 := T.k1
  have k4 := T.k4
  have t0 := T.t0
  have tn : t.natAbs < 2 ^ 40 := by
    have e1 : t = ((2 ^ (8 * k).toNat : Nat) : Int) := by rw [T.tp]; simp
    have e2 : 2 ^ (8 * k).toNat ≤ 2 ^ 32 := Nat.pow_le_pow_right (by decide) (by omega)
    have e3 : 2 ^ 32 < 2 ^ 40 := Nat.pow_lt_pow_right (by decide) (by decide)
    generalize 2 ^ 40 = X at e3 ⊢
    generalize 2 ^ 32 = Y at e2 e3
    omega
  have m0 : (M ++ [MO.lst [.int n]])[M.length]? = some (.lst [.int n]) := get_last
  have d1 := digit (w := 4) (k := 10) (by decide) (by decide) (by decide) (by decide) m0
  have m1' := set_get (v := .lst [.int (n / 4)]) m0
  generalize hM1 : (M ++ [MO.lst [.int n]]).set M.length (.lst [.int (n / 4)]) = M1 at d1 m1'
  have d2 := digit (w := t) (k := 40) (by omega) tn (by decide) (by decide) m1'
  have m2' := set_get (v := .lst [.int (n / 4 / t)]) m1'
  generalize hM2 : M1.set M.length (.lst [.int (n / 4 / t)]) = M2 at d2 m2'
  have d3 := digit (w := t) (k := 40) (by omega) tn (by decide) (by decide) m2'
  have m3' := set_get (v := .lst [.int (n / 4 / t / t)]) m2'
  generalize hM3 : M2.set M.length (.lst [.int (n / 4 / t / t)]) = M3 at d3 m3'
  have d4 := digit (w := t) (k := 40) (by omega) tn (by decide) (by decide) m3'
  have m4' := set_get (v := .lst [.int (n / 4 / t / t / t)]) m3'
  generalize hM4 : M3.set M.length (.lst [.int (n / 4 / t / t / t)]) = M4 at d4 m4'
  have w1 : 0 ≤ n / 4 % t := Int.emod_nonneg _ (by omega)
  have w2 : n / 4 % t < t := Int.emod_lt_of_pos _ (by omega)
  have w3 : 0 ≤ n / 4 / t % t := Int.emod_nonneg _ (by omega)
  have w4 : n / 4 / t % t < t := Int.emod_lt_of_pos _ (by omega)
  have w5 : 0 ≤ n / 4 / t / t % t := Int.emod_nonneg _ (by omega)
  have w6 : n / 4 / t / t % t < t := Int.emod_lt_of_pos _ (by omega)
  have ml : mulD (.int 8) (.int k) M1 = .ok (.int (8 * k)) M1 := mul_ok (a := 4) (b := 4) (by decide) (by omega) (by decide) (by decide) (by decide)
  have sh := shl_top T M1
  obtain ⟨q5, q6, q7, L⟩ := nums_loop T [0, 1, 255, t - 1, t / 2, n / 4 % t, n / 4 / t % t] (fun w hw => by
    simp only [List.mem_cons, List.not_mem_nil, or_false] at hw
    rcases hw with rfl | rfl | rfl | rfl | rfl | rfl | rfl <;> omega) o0 (some (.int c)) (some (.ref M.length)) o5 o6 o7 o8 M3
  simp only [List.map_cons, List.map_nil] at L
  obtain ⟨r6, r8, L2⟩ := refs_loop T o0 (some (.int c)) (some (.ref M.length)) (some (.int t)) q5 q6 q7 o8 M3
  obtain ⟨bs, N⟩ := num (k := k) (n := n / 4 / t / t % t) ⟨k1, k4⟩ w5 (by rw [← T.tp]; exact w6)
  obtain ⟨M5, lr⟩ := looks_right N.len m4'
  have fd : fdivD (.int t) (.int 2) M1 = .ok (.int (t / 2)) M1 := by rfl
  have byB := N.byB M4
  generalize n / 4 / t / t % t = w at d4 byB
  generalize n / 4 / t % t = w' at d3 L
  generalize n / 4 % t = w'' at d2 L
  have pw := pw40 M3
  generalize (10 : Int) ^ 40 = P at pw L2
  refine ⟨some (.ref M.length), some (.int k), some (.int t), q5, r6, q7, r8, M5, ?_⟩
  unfold p_law_L4
  simp [bCons, cAsg, cFor, cIf, gNam, mCall, aCons, aNil, mVar, mC, callM, picks, pick, hl, d1, hk, m2, addD, ml, sh, mItems, mN, lstD, lim_n, subD, int2, fd, d2, d3, itemsD, L, m1, negD, tupD, pw, L2, mNotT, mTru, d4, byB, lr, truD, bNil]
theorem cell_step (c : Int) (o0 o2 o3 o4 o5 o6 o7 o8 : Option D) (M : MH) : ∃ q2 q3 q4 q5 q6 q7 q8 M', p_law_L4 [o0, some (.int c), o2, o3, o4, o5, o6, o7, o8] M = .nx [o0, some (.int c), q2, q3, q4, q5, q6, q7, q8] M' := by
  obtain ⟨n, _, hl⟩ := left c M
  have h0 : 0 ≤ n % 4 := Int.emod_nonneg _ (by decide)
  have h1 : n % 4 < 4 := Int.emod_lt_of_pos _ (by decide)
  obtain ⟨t, T⟩ := top (k := 1 + n % 4) (by omega) (by omega)
  exact cell_core T rfl hl o0 o2 o3 o4 o5 o6 o7 o8
theorem cutI_map (ns : List Int) (lo hi : Option Int) : ∃ ms : List Int, Mi.cutD (ns.map D.int) lo hi = ms.map D.int ∧ ms.length ≤ ns.length := by
  refine ⟨(ns.drop (HT.sIx ns.length 0 lo)).take (HT.sIx ns.length ns.length hi - HT.sIx ns.length 0 lo), ?_, by rw [List.length_take, List.length_drop]; omega⟩
  unfold Mi.cutD
  rw [List.length_map, List.map_take, List.map_drop]
theorem law_true (ns : List Int) (hn : ns.length ≤ 63) : ∃ M', m_law [.lst (ns.map D.int)] [] = .ok (.bl true) M' := by
  obtain ⟨ms, e, hl⟩ := cutI_map ns none (some 20)
  have len : ms.length + 1 ≤ 1000000 := by omega
  obtain ⟨e2, M2, h1, h2⟩ := forGo_inv (g := gNam 1) (b := p_law_L4) (fun i e M1 => ∃ p1 p2 p3 p4 p5 p6 p7 p8 : Option D, e = [some (.lst (ns.map D.int)), p1, p2, p3, p4, p5, p6, p7, p8]) ((ms ++ [4]).map D.int) 0 [some (.lst (ns.map D.int)), none, none, none, none, none, none, none, none] [] ⟨_, _, _, _, _, _, _, _, rfl⟩ fun i d e M1 hd hi => by
    obtain ⟨p1, p2, p3, p4, p5, p6, p7, p8, rfl⟩ := hi
    obtain ⟨c, hc, rfl⟩ := map_int_get hd
    obtain ⟨q2, q3, q4, q5, q6, q7, q8, M', r⟩ := cell_step c (some (.lst (ns.map D.int))) p2 p3 p4 p5 p6 p7 p8 M1
    exact ⟨_, _, _, rfl, .inl r, _, _, _, _, _, _, _, _, rfl⟩
  obtain ⟨p1, p2, p3, p4, p5, p6, p7, p8, rfl⟩ := h2
  rw [List.map_append] at h1
  simp only [List.map_cons, List.map_nil] at h1
  refine ⟨M2, ?_⟩
  rw [m_law_eq]
  simp [mFn, b_law, bCons, cFor, mItems, m2, mSl, mNoP, mPart, sliceD, e, mN, lstD, aCons, aNil, mVar, mC, addD, lim_n, len, itemsD, h1, cRet]
end K01

end

section
set_option maxHeartbeats 4000000
namespace K01
open PySem PySem.Spec PyProof.Rows L2 Mi
theorem all_mk {l : PySem.W.OpenLaw} {w : World} {K : PySem.W.Frag} {h : Heap} {mg : Str → Option Value} {fa : Addr} (X : K.In h) (G : h.Ns mainGlobals mg) (hfa : mg "law" = some (.ref fa))
  {f0 : Addr} {od0 an0 : Option Addr} {sl0 : Array (Option Value)} {oc0 dc0 pm0 cd0 ct0 : Value}
  {kV0 : Value}
  {f1 : Addr} {od1 an1 : Option Addr} {sl1 : Array (Option Value)} {oc1 dc1 pm1 cd1 ct1 : Value}
  {kV1 : Value}
  {f2 : Addr} {od2 an2 : Option Addr} {sl2 : Array (Option Value)} {oc2 dc2 pm2 cd2 ct2 : Value}
  {Dk2 : Addr} {tk2 : Tok}
  {f3 : Addr} {od3 an3 : Option Addr} {sl3 : Array (Option Value)} {oc3 dc3 pm3 cd3 ct3 : Value}
  {kV3 : Value}
  {f4 : Addr} {od4 an4 : Option Addr} {sl4 : Array (Option Value)} {oc4 dc4 pm4 cd4 ct4 : Value}
  {kV4 : Value}
  {f5 : Addr} {od5 an5 : Option Addr} {sl5 : Array (Option Value)} {oc5 dc5 pm5 cd5 ct5 : Value}
  {kV5 : Value}
  {f6 : Addr} {od6 an6 : Option Addr} {sl6 : Array (Option Value)} {oc6 dc6 pm6 cd6 ct6 : Value}
  {kV6 : Value}
  {f7 : Addr} {od7 an7 : Option Addr} {sl7 : Array (Option Value)} {oc7 dc7 pm7 cd7 ct7 : Value}
  {kV7 : Value}
  {f8 : Addr} {od8 an8 : Option Addr} {sl8 : Array (Option Value)} {oc8 dc8 pm8 cd8 ct8 : Value}
  {kV8 : Value}
  {f9 : Addr} {od9 an9 : Option Addr} {sl9 : Array (Option Value)} {oc9 dc9 pm9 cd9 ct9 : Value}
  {kV9 : Value}
  {f10 : Addr} {od10 an10 : Option Addr} {sl10 : Array (Option Value)} {oc10 dc10 pm10 cd10 ct10 : Value}
  {kV10 : Value}
  {f11 : Addr} {od11 an11 : Option Addr} {sl11 : Array (Option Value)} {oc11 dc11 pm11 cd11 ct11 : Value}
  {kV11 : Value}
  {f12 : Addr} {od12 an12 : Option Addr} {sl12 : Array (Option Value)} {oc12 dc12 pm12 cd12 ct12 : Value}
  {kV12 : Value}
  {f13 : Addr} {od13 an13 : Option Addr} {sl13 : Array (Option Value)} {oc13 dc13 pm13 cd13 ct13 : Value}
  {Dk13 : Addr} {tk13 : Tok}
  {f14 : Addr} {od14 an14 : Option Addr} {sl14 : Array (Option Value)} {oc14 dc14 pm14 cd14 ct14 : Value}
  {kV14 : Value}
  {f15 : Addr} {od15 an15 : Option Addr} {sl15 : Array (Option Value)} {oc15 dc15 pm15 cd15 ct15 : Value}
  {kV15 : Value}
  {f16 : Addr} {od16 an16 : Option Addr} {sl16 : Array (Option Value)} {oc16 dc16 pm16 cd16 ct16 : Value}
  {kV16 : Value}
  {f17 : Addr} {od17 an17 : Option Addr} {sl17 : Array (Option Value)} {oc17 dc17 pm17 cd17 ct17 : Value}
  {kV17 : Value}
  {k_MOST_LETTERS : Tok}
  {k_LETTERS : Tok}
  {p_NoNumber : Addr}
  {p_BenchError : Addr}
  {p_NoKind : Addr}
  {p_NoWorth : Addr}
  (a0 : PySem.W.nsIn K mainGlobals "is_word" = some (some (.ref f0))) (l0 : K.lookup f0 = some ⟨oc0, od0, .func (PySem.W.fnOf "is_word" "is_word" (defArgs st_is_word) (defBody st_is_word) (defScope st_is_word) .none kV0 dc0 pm0 an0 cd0 ct0), sl0⟩) (c0 : PySem.W.codeIn K cd0 "is_word" = true) (k0 : PySem.W.keepIn K (.ref f0) = true)
  (a1 : PySem.W.nsIn K mainGlobals "is_whole" = some (some (.ref f1))) (l1 : K.lookup f1 = some ⟨oc1, od1, .func (PySem.W.fnOf "is_whole" "is_whole" (defArgs st_is_whole) (defBody st_is_whole) (defScope st_is_whole) .none kV1 dc1 pm1 an1 cd1 ct1), sl1⟩) (c1 : PySem.W.codeIn K cd1 "is_whole" = true) (k1 : PySem.W.keepIn K (.ref f1) = true)
  (a2 : PySem.W.nsIn K mainGlobals "number_in" = some (some (.ref f2))) (l2 : K.lookup f2 = some ⟨oc2, od2, .func (PySem.W.fnOf "number_in" "number_in" (defArgs st_number_in) (defBody st_number_in) (defScope st_number_in) .none (.ref Dk2) dc2 pm2 an2 cd2 ct2), sl2⟩) (c2 : PySem.W.codeIn K cd2 "number_in" = true) (k2 : PySem.W.keepIn K (.ref f2) = true)
  (d2 : PySem.W.nsIn K Dk2 "order" = some (some (.str "big" tk2)))
  (a3 : PySem.W.nsIn K mainGlobals "_law_left" = some (some (.ref f3))) (l3 : K.lookup f3 = some ⟨oc3, od3, .func (PySem.W.fnOf "_law_left" "_law_left" (defArgs st__law_left) (defBody st__law_left) (defScope st__law_left) .none kV3 dc3 pm3 an3 cd3 ct3), sl3⟩) (c3 : PySem.W.codeIn K cd3 "_law_left" = true) (k3 : PySem.W.keepIn K (.ref f3) = true)
  (a4 : PySem.W.nsIn K mainGlobals "_law_digit" = some (some (.ref f4))) (l4 : K.lookup f4 = some ⟨oc4, od4, .func (PySem.W.fnOf "_law_digit" "_law_digit" (defArgs st__law_digit) (defBody st__law_digit) (defScope st__law_digit) .none kV4 dc4 pm4 an4 cd4 ct4), sl4⟩) (c4 : PySem.W.codeIn K cd4 "_law_digit" = true) (k4 : PySem.W.keepIn K (.ref f4) = true)
  (a5 : PySem.W.nsIn K mainGlobals "_law_of_number" = some (some (.ref f5))) (l5 : K.lookup f5 = some ⟨oc5, od5, .func (PySem.W.fnOf "_law_of_number" "_law_of_number" (defArgs st__law_of_number) (defBody st__law_of_number) (defScope st__law_of_number) .none kV5 dc5 pm5 an5 cd5 ct5), sl5⟩) (c5 : PySem.W.codeIn K cd5 "_law_of_number" = true) (k5 : PySem.W.keepIn K (.ref f5) = true)
  (a6 : PySem.W.nsIn K mainGlobals "_law_is_byte" = some (some (.ref f6))) (l6 : K.lookup f6 = some ⟨oc6, od6, .func (PySem.W.fnOf "_law_is_byte" "_law_is_byte" (defArgs st__law_is_byte) (defBody st__law_is_byte) (defScope st__law_is_byte) .none kV6 dc6 pm6 an6 cd6 ct6), sl6⟩) (c6 : PySem.W.codeIn K cd6 "_law_is_byte" = true) (k6 : PySem.W.keepIn K (.ref f6) = true)
  (a7 : PySem.W.nsIn K mainGlobals "_law_word_so" = some (some (.ref f7))) (l7 : K.lookup f7 = some ⟨oc7, od7, .func (PySem.W.fnOf "_law_word_so" "_law_word_so" (defArgs st__law_word_so) (defBody st__law_word_so) (defScope st__law_word_so) .none kV7 dc7 pm7 an7 cd7 ct7), sl7⟩) (c7 : PySem.W.codeIn K cd7 "_law_word_so" = true) (k7 : PySem.W.keepIn K (.ref f7) = true)
  (a8 : PySem.W.nsIn K mainGlobals "is_between" = some (some (.ref f8))) (l8 : K.lookup f8 = some ⟨oc8, od8, .func (PySem.W.fnOf "is_between" "is_between" (defArgs st_is_between) (defBody st_is_between) (defScope st_is_between) .none kV8 dc8 pm8 an8 cd8 ct8), sl8⟩) (c8 : PySem.W.codeIn K cd8 "is_between" = true) (k8 : PySem.W.keepIn K (.ref f8) = true)
  (a9 : PySem.W.nsIn K mainGlobals "is_number" = some (some (.ref f9))) (l9 : K.lookup f9 = some ⟨oc9, od9, .func (PySem.W.fnOf "is_number" "is_number" (defArgs st_is_number) (defBody st_is_number) (defScope st_is_number) .none kV9 dc9 pm9 an9 cd9 ct9), sl9⟩) (c9 : PySem.W.codeIn K cd9 "is_number" = true) (k9 : PySem.W.keepIn K (.ref f9) = true)
  (a10 : PySem.W.nsIn K mainGlobals "_law_items" = some (some (.ref f10))) (l10 : K.lookup f10 = some ⟨oc10, od10, .func (PySem.W.fnOf "_law_items" "_law_items" (defArgs st__law_items) (defBody st__law_items) (defScope st__law_items) .none kV10 dc10 pm10 an10 cd10 ct10), sl10⟩) (c10 : PySem.W.codeIn K cd10 "_law_items" = true) (k10 : PySem.W.keepIn K (.ref f10) = true)
  (a11 : PySem.W.nsIn K mainGlobals "_law_words" = some (some (.ref f11))) (l11 : K.lookup f11 = some ⟨oc11, od11, .func (PySem.W.fnOf "_law_words" "_law_words" (defArgs st__law_words) (defBody st__law_words) (defScope st__law_words) .none kV11 dc11 pm11 an11 cd11 ct11), sl11⟩) (c11 : PySem.W.codeIn K cd11 "_law_words" = true) (k11 : PySem.W.keepIn K (.ref f11) = true)
  (a12 : PySem.W.nsIn K mainGlobals "is_byte" = some (some (.ref f12))) (l12 : K.lookup f12 = some ⟨oc12, od12, .func (PySem.W.fnOf "is_byte" "is_byte" (defArgs st_is_byte) (defBody st_is_byte) (defScope st_is_byte) .none kV12 dc12 pm12 an12 cd12 ct12), sl12⟩) (c12 : PySem.W.codeIn K cd12 "is_byte" = true) (k12 : PySem.W.keepIn K (.ref f12) = true)
  (a13 : PySem.W.nsIn K mainGlobals "bytes_of" = some (some (.ref f13))) (l13 : K.lookup f13 = some ⟨oc13, od13, .func (PySem.W.fnOf "bytes_of" "bytes_of" (defArgs st_bytes_of) (defBody st_bytes_of) (defScope st_bytes_of) .none (.ref Dk13) dc13 pm13 an13 cd13 ct13), sl13⟩) (c13 : PySem.W.codeIn K cd13 "bytes_of" = true) (k13 : PySem.W.keepIn K (.ref f13) = true)
  (d13 : PySem.W.nsIn K Dk13 "order" = some (some (.str "big" tk13)))
  (a14 : PySem.W.nsIn K mainGlobals "is_bytes" = some (some (.ref f14))) (l14 : K.lookup f14 = some ⟨oc14, od14, .func (PySem.W.fnOf "is_bytes" "is_bytes" (defArgs st_is_bytes) (defBody st_is_bytes) (defScope st_is_bytes) .none kV14 dc14 pm14 an14 cd14 ct14), sl14⟩) (c14 : PySem.W.codeIn K cd14 "is_bytes" = true) (k14 : PySem.W.keepIn K (.ref f14) = true)
  (a15 : PySem.W.nsIn K mainGlobals "_law_refused" = some (some (.ref f15))) (l15 : K.lookup f15 = some ⟨oc15, od15, .func (PySem.W.fnOf "_law_refused" "_law_refused" (defArgs st__law_refused) (defBody st__law_refused) (defScope st__law_refused) .none kV15 dc15 pm15 an15 cd15 ct15), sl15⟩) (c15 : PySem.W.codeIn K cd15 "_law_refused" = true) (k15 : PySem.W.keepIn K (.ref f15) = true)
  (a16 : PySem.W.nsIn K mainGlobals "_law_looks_right" = some (some (.ref f16))) (l16 : K.lookup f16 = some ⟨oc16, od16, .func (PySem.W.fnOf "_law_looks_right" "_law_looks_right" (defArgs st__law_looks_right) (defBody st__law_looks_right) (defScope st__law_looks_right) .none kV16 dc16 pm16 an16 cd16 ct16), sl16⟩) (c16 : PySem.W.codeIn K cd16 "_law_looks_right" = true) (k16 : PySem.W.keepIn K (.ref f16) = true)
  (a17 : PySem.W.nsIn K mainGlobals "law" = some (some (.ref f17))) (l17 : K.lookup f17 = some ⟨oc17, od17, .func (PySem.W.fnOf "law" "law" (defArgs st_law) (defBody st_law) (defScope st_law) .none kV17 dc17 pm17 an17 cd17 ct17), sl17⟩) (c17 : PySem.W.codeIn K cd17 "law" = true) (k17 : PySem.W.keepIn K (.ref f17) = true)
  (z_isinstance : PySem.W.nsIn K mainGlobals "isinstance" = some none)
  (z_str : PySem.W.nsIn K mainGlobals "str" = some none)
  (z_len : PySem.W.nsIn K mainGlobals "len" = some none)
  (z_all : PySem.W.nsIn K mainGlobals "all" = some none)
  (z_int : PySem.W.nsIn K mainGlobals "int" = some none)
  (z_bool : PySem.W.nsIn K mainGlobals "bool" = some none)
  (z_abs : PySem.W.nsIn K mainGlobals "abs" = some none)
  (z_range : PySem.W.nsIn K mainGlobals "range" = some none)
  (z_list : PySem.W.nsIn K mainGlobals "list" = some none)
  (z_tuple : PySem.W.nsIn K mainGlobals "tuple" = some none)
  (z_ValueError : PySem.W.nsIn K mainGlobals "ValueError" = some none)
  (z_repr : PySem.W.nsIn K mainGlobals "repr" = some none)
  (g_MOST_LETTERS : PySem.W.nsIn K mainGlobals "MOST_LETTERS" = some (some (.int 8 k_MOST_LETTERS)))
  (g_LETTERS : PySem.W.nsIn K mainGlobals "LETTERS" = some (some (.str "abcdefghijklmnopqrstuvwxyz" k_LETTERS)))
  (n_NoNumber : PySem.W.nsIn K mainGlobals "NoNumber" = some (some (.ref p_NoNumber)))
  (n_BenchError : PySem.W.nsIn K mainGlobals "BenchError" = some (some (.ref p_BenchError)))
  (n_NoKind : PySem.W.nsIn K mainGlobals "NoKind" = some (some (.ref p_NoKind)))
  (n_NoWorth : PySem.W.nsIn K mainGlobals "NoWorth" = some (some (.ref p_NoWorth)))
  (e_NoNumber : PySem.W.excIn K p_NoNumber [.type "ValueError", .type "Exception", .type "BaseException", .type "object"] "ValueError.__new__" = true) (kk_NoNumber : PySem.W.keepIn K (.ref p_NoNumber) = true) (ty_NoNumber : PySem.W.typeIn K (.ref p_NoNumber) = some (.type "type"))
  (sb_NoNumber : PySem.W.subIn K (.ref p_NoNumber) (.type "BaseException") = some true)
  (xc1_NoNumber : PySem.W.isClsIn K p_NoNumber = true) (xc2_NoNumber : PySem.W.findIn K (.ref p_NoNumber) "__getattribute__" = some (some (.builtin "BaseException.__getattribute__"))) (xc3_NoNumber : PySem.W.findIn K (.ref p_NoNumber) "__getattr__" = some none) (xc4_NoNumber : PySem.W.findIn K (.ref p_NoNumber) "__class__" = some (some (.builtin "object.__class__"))) (xc5_NoNumber : PySem.W.mroIn K p_NoNumber (.type "object") = some true) (xc6_NoNumber : PySem.W.hasDictIn K p_NoNumber = true)
  (xs1 : PySem.W.specialIn K (.builtin "object.__class__") "__get__" = some (some (.builtin "getset_descriptor.__get__"))) (xs2 : PySem.W.takesIn K (.builtin "object.__class__") = some true)
  (it_NoNumber_BenchError : PySem.W.kitOne K (.ref p_NoNumber) (.ref p_BenchError) = some true)
  (it_NoNumber_ValueError : PySem.W.kitOne K (.ref p_NoNumber) (.type "ValueError") = some true)
  (it_NoNumber_NoKind : PySem.W.kitOne K (.ref p_NoNumber) (.ref p_NoKind) = some false)
  (it_NoNumber_NoWorth : PySem.W.kitOne K (.ref p_NoNumber) (.ref p_NoWorth) = some false)
  (ex_NoNumber_NoNumber : PySem.W.subIn K (.ref p_NoNumber) (.ref p_NoNumber) = some true)
  (ei_NoNumber : PySem.W.isClsIn K p_NoNumber = true) :
  ∃ fd : FuncData, (∀ (s : Shared) (u : Value), BindsTo s fd ⟨[u], []⟩ [("_law_script", u)]) ∧ ∀ base : Heap, K.In base → base.Ns mainGlobals mg → FnG l.prog w K mg base 6 fa fd ["_law_script"] (spM K 1 m_law) := by
  refine ⟨_, fun s u => .of_eq rfl, fun base _ _ => law_fd (x := "law") (st := st_law) (ps := ["_law_script"]) X G hfa a17 l17 ?_⟩
  have A0 := at_mk (st := st_is_word) X G a0 l0 c0 k0
  have A1 := at_mk (st := st_is_whole) X G a1 l1 c1 k1
  have A2 := at_mk1 (st := st_number_in) X G a2 l2 c2 k2 d2
  have A3 := at_mk (st := st__law_left) X G a3 l3 c3 k3
  have A4 := at_mk (st := st__law_digit) X G a4 l4 c4 k4
  have A5 := at_mk (st := st__law_of_number) X G a5 l5 c5 k5
  have A6 := at_mk (st := st__law_is_byte) X G a6 l6 c6 k6
  have A7 := at_mk (st := st__law_word_so) X G a7 l7 c7 k7
  have A8 := at_mk (st := st_is_between) X G a8 l8 c8 k8
  have A9 := at_mk (st := st_is_number) X G a9 l9 c9 k9
  have A10 := at_mk (st := st__law_items) X G a10 l10 c10 k10
  have A11 := at_mk (st := st__law_words) X G a11 l11 c11 k11
  have A12 := at_mk (st := st_is_byte) X G a12 l12 c12 k12
  have A13 := at_mk1 (st := st_bytes_of) X G a13 l13 c13 k13 d13
  have A14 := at_mk (st := st_is_bytes) X G a14 l14 c14 k14
  have A15 := at_mk (st := st__law_refused) X G a15 l15 c15 k15
  have A16 := at_mk (st := st__law_looks_right) X G a16 l16 c16 k16
  have A17 := at_mk (st := st_law) X G a17 l17 c17 k17
  have Z_isinstance := PySem.W.mg_none_of X G z_isinstance
  have Z_str := PySem.W.mg_none_of X G z_str
  have Z_len := PySem.W.mg_none_of X G z_len
  have Z_all := PySem.W.mg_none_of X G z_all
  have Z_int := PySem.W.mg_none_of X G z_int
  have Z_bool := PySem.W.mg_none_of X G z_bool
  have Z_abs := PySem.W.mg_none_of X G z_abs
  have Z_range := PySem.W.mg_none_of X G z_range
  have Z_list := PySem.W.mg_none_of X G z_list
  have Z_tuple := PySem.W.mg_none_of X G z_tuple
  have Z_ValueError := PySem.W.mg_none_of X G z_ValueError
  have Z_repr := PySem.W.mg_none_of X G z_repr
  have R_NoNumber : RC0 K mg "NoNumber" := ⟨p_NoNumber, _, _, _, _, PySem.F.excBase_ValueError, PySem.W.mg_of X G n_NoNumber, n_NoNumber, e_NoNumber, kk_NoNumber, sb_NoNumber, ty_NoNumber⟩
  have XC_NoNumber : XC K "NoNumber" p_NoNumber := ⟨n_NoNumber, xc1_NoNumber, xc2_NoNumber, xc3_NoNumber, sb_NoNumber, xc4_NoNumber, xs1, xs2, xc5_NoNumber, xc6_NoNumber⟩
  have okI : IOk K itab := fun p hp => by
    simp only [itab, List.mem_cons, List.not_mem_nil, or_false] at hp
    rcases hp with rfl
    · refine ⟨p_NoNumber, XC_NoNumber, fun q hq nv cv => ?_⟩
      simp only [List.mem_cons, List.not_mem_nil, or_false] at hq
      rcases hq with rfl | rfl | rfl | rfl
      · rw [cn_ref n_BenchError cv]; exact it_NoNumber_BenchError
      · rw [show nv = _ from cv]; exact it_NoNumber_ValueError
      · rw [cn_ref n_NoKind cv]; exact it_NoNumber_NoKind
      · rw [cn_ref n_NoWorth cv]; exact it_NoNumber_NoWorth
  have EX_NoNumber : ExOk K (.ref p_NoNumber) ex_NoNumber := fun p hp cv cn => by
    simp only [ex_NoNumber, List.mem_cons, List.not_mem_nil, or_false] at hp
    rcases hp with rfl
    · rw [cn_ref n_NoNumber cn]; exact exm_mk sb_NoNumber ei_NoNumber ty_NoNumber ex_NoNumber_NoNumber
  have D0 := d_is_word (P := l.prog) (w := w) (base := base) A0 Z_isinstance Z_str Z_len (PySem.W.mg_of X G g_MOST_LETTERS) Z_all (PySem.W.mg_of X G g_LETTERS)
  have D1 := d_is_whole (P := l.prog) (w := w) (base := base) A1 Z_isinstance Z_int Z_bool
  have D2 := d_number_in (P := l.prog) (w := w) (base := base) A2 
  have D3 := d__law_left (P := l.prog) (w := w) (base := base) A3 Z_abs Z_range
  have D4 := d__law_digit (P := l.prog) (w := w) (base := base) A4 
  have D5 := d__law_of_number (P := l.prog) (w := w) (base := base) A5 Z_range
  have D6 := d__law_is_byte (P := l.prog) (w := w) (base := base) A6 Z_isinstance Z_int Z_bool
  have D7 := d__law_word_so (P := l.prog) (w := w) (base := base) A7 Z_isinstance Z_str Z_len
  have D8 := d_is_between (P := l.prog) (w := w) (base := base) A8 D1
  have D9 := d_is_number (P := l.prog) (w := w) (base := base) A9 D1
  have D10 := d__law_items (P := l.prog) (w := w) (base := base) A10 Z_list D4
  have D11 := d__law_words (P := l.prog) (w := w) (base := base) A11 Z_range D4
  have D12 := d_is_byte (P := l.prog) (w := w) (base := base) A12 D8
  have D13 := d_bytes_of (P := l.prog) (w := w) (base := base) A13 R_NoNumber Z_tuple Z_range D9
  have D14 := d_is_bytes (P := l.prog) (w := w) (base := base) A14 Z_isinstance Z_tuple Z_all D12
  have D15 := d__law_refused (P := l.prog) (w := w) (base := base) A15 n_NoNumber (PySem.W.mg_of X G n_NoNumber) EX_NoNumber Z_isinstance okI n_BenchError (PySem.W.mg_of X G n_BenchError) Z_ValueError n_NoKind (PySem.W.mg_of X G n_NoKind) n_NoWorth (PySem.W.mg_of X G n_NoWorth) D13
  have D16 := d__law_looks_right (P := l.prog) (w := w) (base := base) A16 Z_isinstance Z_tuple Z_int Z_bool Z_repr D10 D11 D6 D14 D1 D0 D7
  exact d_law A17 D3 D4 D5 D13 D2 D15 D16

end K01
end

section
open PySem PySem.W PyProof.Rows
set_option maxHeartbeats 0 in
theorem PySem.Challenge.cw_letterbench_k01_numbers_in_bytes_holds : PySem.Challenge.rw_letterbench_k01_numbers_in_bytes.Holds := by
  w_on; o_law; k_head; (case hw => w_witness2)
  k_fill
  refine Mi.walk_m (l := PySem.Challenge.rw_letterbench_k01_numbers_in_bytes) (n := 63) (k := 6) (x := "_law_script") (m := K01.m_law) rfl (by decide) rfl ⟨rfl, by decide, by decide⟩ (fun w h Y => PySem.W.kIn_of Y) ?F (fun ns hn hb => K01.law_true ns hn)
  case F =>
    intro w mg fa h KX G hmg
    refine' K01.all_mk KX G hmg (a0 := ?a0) (l0 := ?l0) (c0 := ?c0) (k0 := ?k0) (a1 := ?a1) (l1 := ?l1) (c1 := ?c1) (k1 := ?k1) (a2 := ?a2) (l2 := ?l2) (c2 := ?c2) (k2 := ?k2) (d2 := ?d2) (a3 := ?a3) (l3 := ?l3) (c3 := ?c3) (k3 := ?k3) (a4 := ?a4) (l4 := ?l4) (c4 := ?c4) (k4 := ?k4) (a5 := ?a5) (l5 := ?l5) (c5 := ?c5) (k5 := ?k5) (a6 := ?a6) (l6 := ?l6) (c6 := ?c6) (k6 := ?k6) (a7 := ?a7) (l7 := ?l7) (c7 := ?c7) (k7 := ?k7) (a8 := ?a8) (l8 := ?l8) (c8 := ?c8) (k8 := ?k8) (a9 := ?a9) (l9 := ?l9) (c9 := ?c9) (k9 := ?k9) (a10 := ?a10) (l10 := ?l10) (c10 := ?c10) (k10 := ?k10) (a11 := ?a11) (l11 := ?l11) (c11 := ?c11) (k11 := ?k11) (a12 := ?a12) (l12 := ?l12) (c12 := ?c12) (k12 := ?k12) (a13 := ?a13) (l13 := ?l13) (c13 := ?c13) (k13 := ?k13) (d13 := ?d13) (a14 := ?a14) (l14 := ?l14) (c14 := ?c14) (k14 := ?k14) (a15 := ?a15) (l15 := ?l15) (c15 := ?c15) (k15 := ?k15) (a16 := ?a16) (l16 := ?l16) (c16 := ?c16) (k16 := ?k16) (a17 := ?a17) (l17 := ?l17) (c17 := ?c17) (k17 := ?k17) (z_isinstance := ?z_isinstance) (z_str := ?z_str) (z_len := ?z_len) (z_all := ?z_all) (z_int := ?z_int) (z_bool := ?z_bool) (z_abs := ?z_abs) (z_range := ?z_range) (z_list := ?z_list) (z_tuple := ?z_tuple) (z_ValueError := ?z_ValueError) (z_repr := ?z_repr) (g_MOST_LETTERS := ?g_MOST_LETTERS) (g_LETTERS := ?g_LETTERS) (n_NoNumber := ?n_NoNumber) (n_BenchError := ?n_BenchError) (n_NoKind := ?n_NoKind) (n_NoWorth := ?n_NoWorth) (kk_NoNumber := ?kk_NoNumber) (ty_NoNumber := ?ty_NoNumber) (sb_NoNumber := ?sb_NoNumber) (xc1_NoNumber := ?xc1_NoNumber) (xc2_NoNumber := ?xc2_NoNumber) (xc3_NoNumber := ?xc3_NoNumber) (xc4_NoNumber := ?xc4_NoNumber) (xc5_NoNumber := ?xc5_NoNumber) (xc6_NoNumber := ?xc6_NoNumber) (xs1 := ?xs1) (xs2 := ?xs2) (ex_NoNumber_NoNumber := ?ex_NoNumber_NoNumber) (ei_NoNumber := ?ei_NoNumber) (e_NoNumber := ?e_NoNumber) (it_NoNumber_BenchError := ?it_NoNumber_BenchError) (it_NoNumber_ValueError := ?it_NoNumber_ValueError) (it_NoNumber_NoKind := ?it_NoNumber_NoKind) (it_NoNumber_NoWorth := ?it_NoNumber_NoWorth)
    (case a0 => k_is)
    (case l0 => k_is)
    (case c0 => k_is)
    (case k0 => k_is)
    (case a1 => k_is)
    (case l1 => k_is)
    (case c1 => k_is)
    (case k1 => k_is)
    (case a2 => k_is)
    (case l2 => k_is)
    (case c2 => k_is)
    (case k2 => k_is)
    (case d2 => k_is)
    (case a3 => k_is)
    (case l3 => k_is)
    (case c3 => k_is)
    (case k3 => k_is)
    (case a4 => k_is)
    (case l4 => k_is)
    (case c4 => k_is)
    (case k4 => k_is)
    (case a5 => k_is)
    (case l5 => k_is)
    (case c5 => k_is)
    (case k5 => k_is)
    (case a6 => k_is)
    (case l6 => k_is)
    (case c6 => k_is)
    (case k6 => k_is)
    (case a7 => k_is)
    (case l7 => k_is)
    (case c7 => k_is)
    (case k7 => k_is)
    (case a8 => k_is)
    (case l8 => k_is)
    (case c8 => k_is)
    (case k8 => k_is)
    (case a9 => k_is)
    (case l9 => k_is)
    (case c9 => k_is)
    (case k9 => k_is)
    (case a10 => k_is)
    (case l10 => k_is)
    (case c10 => k_is)
    (case k10 => k_is)
    (case a11 => k_is)
    (case l11 => k_is)
    (case c11 => k_is)
    (case k11 => k_is)
    (case a12 => k_is)
    (case l12 => k_is)
    (case c12 => k_is)
    (case k12 => k_is)
    (case a13 => k_is)
    (case l13 => k_is)
    (case c13 => k_is)
    (case k13 => k_is)
    (case d13 => k_is)
    (case a14 => k_is)
    (case l14 => k_is)
    (case c14 => k_is)
    (case k14 => k_is)
    (case a15 => k_is)
    (case l15 => k_is)
    (case c15 => k_is)
    (case k15 => k_is)
    (case a16 => k_is)
    (case l16 => k_is)
    (case c16 => k_is)
    (case k16 => k_is)
    (case a17 => k_is)
    (case l17 => k_is)
    (case c17 => k_is)
    (case k17 => k_is)
    (case z_isinstance => k_is)
    (case z_str => k_is)
    (case z_len => k_is)
    (case z_all => k_is)
    (case z_int => k_is)
    (case z_bool => k_is)
    (case z_abs => k_is)
    (case z_range => k_is)
    (case z_list => k_is)
    (case z_tuple => k_is)
    (case z_ValueError => k_is)
    (case z_repr => k_is)
    (case g_MOST_LETTERS => k_is)
    (case g_LETTERS => k_is)
    (case n_NoNumber => k_is)
    (case n_BenchError => k_is)
    (case n_NoKind => k_is)
    (case n_NoWorth => k_is)
    (case kk_NoNumber => k_is)
    (case ty_NoNumber => k_is)
    (case sb_NoNumber => k_is)
    (case xc1_NoNumber => k_is)
    (case xc2_NoNumber => k_is)
    (case xc3_NoNumber => k_is)
    (case xc4_NoNumber => k_is)
    (case xc5_NoNumber => k_is)
    (case xc6_NoNumber => k_is)
    (case xs1 => k_is)
    (case xs2 => k_is)
    (case ex_NoNumber_NoNumber => k_is)
    (case ei_NoNumber => k_is)
    (case e_NoNumber => k_exc)
    (case it_NoNumber_BenchError => kit_is)
    (case it_NoNumber_ValueError => kit_is)
    (case it_NoNumber_NoKind => kit_is)
    (case it_NoNumber_NoWorth => kit_is)

end
