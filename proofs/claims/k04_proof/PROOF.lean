import PyProof.Rows.All
import Wide.All
import OpenK.AllK
import Wide.FinOn
import KE.KStateDown
import KE.DataMinMax
import KE.DatumOrd
import HandS.SortKw
import HandS.ForMost
import HandS.Property
import HandS.MakeKw
import HandS.FStr
import HandS.Star
import HandS.OwnEq
import HandS.IsInst
import HandS.Codes
import HandS.More
import HandS.Flow
import HandS.RaiseMore
import HandS.Defaults
import HandS.Style
import HandS.Conv
import HandS.Small
import HandS.Zip
import HandS.Wide
import HandS.Exc
import HandS.WordsExc
import HandS.Head0
import HandS.Head1
import HandS.Head2
import HandS.HeadEnd
import HandS.HeadHook1
import HandS.HeadHook2
import HandS.ClsMeth
import PySem.Challenge.RW_splitplans_k04_terms_read
import KE.KCallOwn
import HandS.MakeKwOnly
import KE.GoesZip
import KE.GoesMore
import HandS.Zip0
import HandS.GenList
import HandS.GenYield
set_option Elab.async false
set_option linter.all false
set_option maxRecDepth 100000
set_option maxHeartbeats 0
/-! ## the head: a Hook that tells every def by its own place in the written part -/
namespace Hd
open PySem PySem.Spec PyProof.Rows L2
abbrev Dn : Type := (PySem.W.Frag → Addr) × He.DefD
def inRec (kind : String) (c m : Str) (K : PySem.W.Frag) : Addr := match PySem.W.recIn K (He.ma K (He.ga K c) m) kind with
  | some (.ref g :: _) => g
  | _ => 0
def dG (x : Str) (st : Stmt) (dfl : List He.Dv) (kw : List (Str × He.Dv)) : Dn := (fun K => He.ga K x, ⟨(x, none), x, x, defArgs st, defBody st, defScope st, dfl, kw⟩)
def dM (c m q : Str) (st : Stmt) (dfl : List He.Dv) (kw : List (Str × He.Dv)) : Dn := (fun K => He.ma K (He.ga K c) m, ⟨(c, some m), m, q, defArgs st, defBody st, defScope st, dfl, kw⟩)
def dR (kind : String) (c m q : Str) (st : Stmt) (dfl : List He.Dv) (kw : List (Str × He.Dv)) : Dn := (fun K => inRec kind c m K, ⟨(c, some m), m, q, defArgs st, defBody st, defScope st, dfl, kw⟩)
/-- the parts of the function object at an address that a def's text fixes -/
def shown (K : PySem.W.Frag) (a : Addr) : He.FnW := (K.lookup a).bind fun o => match o.data with
  | .func f => some (f.name, f.qualname, f.params, f.body, f.scope, f.globals, f.closure, f.builtins)
  | _ => none
def sound (K : PySem.W.Frag) (d : Dn) : Bool := PySem.W.keepIn K (.ref (d.1 K)) && (((K.lookup (d.1 K)).bind fun o => match o.data with
  | .func f => some (PySem.W.codeIn K f.code d.2.qual && (He.dflB K f.defaults (d.2.dvs K) && He.kwdB K f.kwdefaults (d.2.kws K)))
  | _ => none).getD false)
theorem sound_fun {K : PySem.W.Frag} {d : Dn} (e : shown K (d.1 K) = d.2.val) (c : sound K d = true) :
    ∃ fd, FunD K d.2.name d.2.qual d.2.params d.2.body d.2.scope (d.2.dvs K) (d.2.kws K) (d.1 K) fd := by
  obtain ⟨keep, c2⟩ := Bool.and_eq_true_iff.mp c
  unfold shown at e
  rcases look : K.lookup (d.1 K) with _ | ⟨oc, od, dt, osl⟩
  · rw [look] at e
    cases e
  · rw [look] at e c2
    rcases dt with _ | _ | _ | _ | _ | _ | _ | _ | _ | _ | _ | _ | _
    all_goals first
      | (cases e; done)
      | skip
    all_goals
      rename_i fd
      obtain ⟨m1, m2, m3, m4, m5, m6, m7, m8, m9, m10, m11, m12, m13, m14, m15⟩ := fd
      have e' : (some (m1, m2, m3, m4, m5, m6, m7, m15) : He.FnW) = some (d.2.name, d.2.qual, d.2.params, .stmts d.2.body, d.2.scope, mainGlobals, [], builtinsNs) := e
      simp only [Option.some.injEq, Prod.mk.injEq] at e'
      obtain ⟨rfl, rfl, rfl, rfl, rfl, rfl, rfl, rfl⟩ := e'
      have c3 : (PySem.W.codeIn K m13 d.2.qual && (He.dflB K m8 (d.2.dvs K) && He.kwdB K m9 (d.2.kws K))) = true := c2
      obtain ⟨c4, c5⟩ := Bool.and_eq_true_iff.mp c3
      obtain ⟨c6, c7⟩ := Bool.and_eq_true_iff.mp c5
      exact ⟨_, ⟨oc, od, m8, m9, m10, m11, m12, m13, m14, osl, rfl, look, c4, He.dflB_ok c6, He.kwdB_ok c7⟩, keep⟩
/-! more facts, each a Bool over the written part -/
def propB (c f : Str) (K : PySem.W.Frag) : Bool :=
  He.eqO (PySem.W.findIn K (.ref (He.ga K c)) f) (some (some (.ref (He.ma K (He.ga K c) f)))) && (decide (PySem.W.specialIn K (.ref (He.ma K (He.ga K c) f)) "__get__" = some (some (.builtin "property.__get__"))) &&
    (decide (PySem.W.takesIn K (.ref (He.ma K (He.ga K c) f)) = some true) && (match PySem.W.recIn K (He.ma K (He.ga K c) f) "property" with | some (.ref g :: _) => decide (g = inRec "property" c f K) | _ => false)))
theorem propB_ok {c f : Str} {K : PySem.W.Frag} (h : propB c f K = true) : PropOf K (He.ga K c) f (He.ma K (He.ga K c) f) (inRec "property" c f K) := by
  obtain ⟨h1, h⟩ := Bool.and_eq_true_iff.mp h
  obtain ⟨h2, h⟩ := Bool.and_eq_true_iff.mp h
  obtain ⟨h3, h4⟩ := Bool.and_eq_true_iff.mp h
  refine ⟨He.eqO_ok h1, of_decide_eq_true h2, of_decide_eq_true h3, ?_⟩
  cases e : PySem.W.recIn K (He.ma K (He.ga K c) f) "property" with
  | none => rw [e] at h4; cases h4
  | some l =>
    rw [e] at h4
    cases l with
    | nil => cases h4
    | cons v r =>
      cases v with
      | ref g => exact ⟨r, by rw [of_decide_eq_true h4]⟩
      | _ => cases h4
def insB (c : Str) (K : PySem.W.Frag) : Bool := He.eqO (PySem.W.findIn K (.ref (He.ga K c)) "__class__") (some (some (.builtin "object.__class__"))) &&
  (decide (PySem.W.specialIn K (.builtin "object.__class__") "__get__" = some (some (.builtin "getset_descriptor.__get__"))) && (decide (PySem.W.takesIn K (.builtin "object.__class__") = some true) &&
    (decide (PySem.W.mroIn K (He.ga K c) (.type "object") = some true) && (decide (PySem.W.kitOne K (.ref (He.ga K c)) (.ref (He.ga K c)) = some true) && (PySem.W.notFirst K (He.ga K c) (.ref (He.ga K c)))))))
structure InsF (K : PySem.W.Frag) (C : Addr) : Prop where
  ha : PySem.W.findIn K (.ref C) "__class__" = some (some (.builtin "object.__class__"))
  hn : PySem.W.specialIn K (.builtin "object.__class__") "__get__" = some (some (.builtin "getset_descriptor.__get__"))
  htk : PySem.W.takesIn K (.builtin "object.__class__") = some true
  hm : PySem.W.mroIn K C (.type "object") = some true
  me : PySem.W.kitOne K (.ref C) (.ref C) = some true
  nf : PySem.W.notFirst K C (.ref C) = true
theorem insB_ok {c : Str} {K : PySem.W.Frag} (h : insB c K = true) : InsF K (He.ga K c) := by
  obtain ⟨h1, h⟩ := Bool.and_eq_true_iff.mp h
  obtain ⟨h2, h⟩ := Bool.and_eq_true_iff.mp h
  obtain ⟨h3, h⟩ := Bool.and_eq_true_iff.mp h
  obtain ⟨h4, h⟩ := Bool.and_eq_true_iff.mp h
  obtain ⟨h5, h6⟩ := Bool.and_eq_true_iff.mp h
  exact ⟨He.eqO_ok h1, of_decide_eq_true h2, of_decide_eq_true h3, of_decide_eq_true h4, of_decide_eq_true h5, h6⟩
/-- no value of this built-in type is an instance of the class, none goes first -/
def kitsB (c : Str) (ts : List String) (K : PySem.W.Frag) : Bool := ts.all fun t => decide (PySem.W.kitOne K (.type t) (.ref (He.ga K c)) = some false) && PySem.W.notFirst K (He.ga K c) (.type t)
theorem kitsB_ok {c : Str} {ts : List String} {K : PySem.W.Frag} (h : kitsB c ts K = true) {t : String} (ht : t ∈ ts) : PySem.W.kitOne K (.type t) (.ref (He.ga K c)) = some false ∧ PySem.W.notFirst K (He.ga K c) (.type t) = true := by
  obtain ⟨h1, h2⟩ := Bool.and_eq_true_iff.mp (List.all_eq_true.mp h t ht)
  exact ⟨of_decide_eq_true h1, h2⟩
def attB (c m : Str) (v : Value) (K : PySem.W.Frag) : Bool := He.eqO (PySem.W.findIn K (.ref (He.ga K c)) m) (some (some v))
abbrev Al : Type := Bool × List He.FnW
def seenBy (fa : List He.Fa) (ex : PySem.W.Frag → Bool) (fn : List Dn) (K : PySem.W.Frag) : Al := ((fa.all fun f => f.ok K) && (ex K && fn.all fun d => sound K d), fn.map fun d => shown K (d.1 K))
def wanted (fn : List Dn) : Al := (true, fn.map fun d => d.2.val)
def Says (fa : List He.Fa) (ex : PySem.W.Frag → Bool) (fn : List Dn) (K : PySem.W.Frag) : Prop := seenBy fa ex fn K = wanted fn
def atHeap (n : Nat) (fa : List He.Fa) (ex : PySem.W.Frag → Bool) (fn : List Dn) (g : Addr → Option Obj) : Al := seenBy fa ex fn (He.frG g (cStatics :: He.asD g n))
def hook (n : Nat) (fa : List He.Fa) (ex : PySem.W.Frag → Bool) (fn : List Dn) : PySem.W.Hook where
  α := Al
  obs := fun s => atHeap n fa ex fn s.heap.get?
  val := fun _ => wanted fn
  says := fun _ h => ∃ K : PySem.W.Frag, K.In h ∧ Says fa ex fn K
  of := fun _ _ e => ⟨_, He.frG_in, e⟩
  keeps := fun _ _ _ ⟨K, hK, c⟩ k => ⟨K, PySem.W.Frag.In.keeps hK k, c⟩
theorem at_eq {n : Nat} {fa : List He.Fa} {ex : PySem.W.Frag → Bool} {fn : List Dn} {g : Addr → Option Obj} {s : Shared} (h : ∀ a, g a = s.heap.get? a) : atHeap n fa ex fn g = (hook n fa ex fn).obs s := by
  obtain rfl : g = s.heap.get? := funext h
  rfl
section
variable {fa : List He.Fa} {ex : PySem.W.Frag → Bool} {fn : List Dn} {K : PySem.W.Frag}
theorem Says.fst (c : Says fa ex fn K) : ((fa.all fun f => f.ok K) && (ex K && fn.all fun d => sound K d)) = true := congrArg (fun z : Al => z.1) c
theorem Says.fact (c : Says fa ex fn K) {f : He.Fa} (h : f ∈ fa) : f.ok K = true := List.all_eq_true.mp (Bool.and_eq_true_iff.mp c.fst).1 f h
theorem Says.more (c : Says fa ex fn K) : ex K = true := (Bool.and_eq_true_iff.mp (Bool.and_eq_true_iff.mp c.fst).2).1
theorem Says.fun_ (c : Says fa ex fn K) (i : Nat) {d : Dn} (h : fn[i]? = some d) : ∃ fd, FunD K d.2.name d.2.qual d.2.params d.2.body d.2.scope (d.2.dvs K) (d.2.kws K) (d.1 K) fd := by
  have all := List.all_eq_true.mp (Bool.and_eq_true_iff.mp (Bool.and_eq_true_iff.mp c.fst).2).2 d (List.mem_of_getElem? h)
  have e : fn.map (fun d => shown K (d.1 K)) = fn.map fun d => d.2.val := congrArg (fun z : Al => z.2) c
  have e2 : (fn.map fun d => shown K (d.1 K))[i]? = (fn.map fun d => d.2.val)[i]? := by rw [e]
  rw [List.getElem?_map, List.getElem?_map, h] at e2
  exact sound_fun (Option.some.inj e2) all
end
end Hd
namespace Hd
open PySem PySem.Spec PyProof.Rows L2
def cmB (c m : Str) (K : PySem.W.Frag) : Bool := PySem.W.readsIn K (He.ga K c) (.type "type") && (He.eqO (PySem.W.specialIn K (.ref (He.ga K c)) "__getattribute__") (some (some (.builtin "type.__getattribute__"))) &&
  ((match PySem.W.findCls K (.ref (He.ga K c)) (.type "type") m with | some (.get (.builtin a) (.ref p) .none (.ref C)) => decide (a = "classmethod.__get__") && (decide (p = He.ma K (He.ga K c) m) && decide (C = He.ga K c)) | _ => false) &&
    ((match PySem.W.recIn K (He.ma K (He.ga K c) m) "classmethod" with | some (.ref g :: _) => decide (g = inRec "classmethod" c m K) | _ => false) && PySem.W.fnIn K (inRec "classmethod" c m K))))
theorem cmB_ok {c m : Str} {K : PySem.W.Frag} (h : cmB c m K = true) : ClX.CRead K (He.ga K c) (.type "type") ∧ ClX.CMet K (He.ga K c) (.type "type") m (He.ma K (He.ga K c) m) (inRec "classmethod" c m K) := by
  obtain ⟨h1, h⟩ := Bool.and_eq_true_iff.mp h
  obtain ⟨h2, h⟩ := Bool.and_eq_true_iff.mp h
  obtain ⟨h3, h⟩ := Bool.and_eq_true_iff.mp h
  obtain ⟨h4, h5⟩ := Bool.and_eq_true_iff.mp h
  refine ⟨⟨h1, He.eqO_ok h2⟩, ⟨?_, ?_, h5⟩⟩
  · cases e : PySem.W.findCls K (.ref (He.ga K c)) (.type "type") m with
    | none => rw [e] at h3; cases h3
    | some r =>
      rw [e] at h3
      cases r with
      | get a b d f =>
        cases a <;> try (cases h3; done)
        cases b <;> try (cases h3; done)
        cases d <;> try (cases h3; done)
        cases f <;> try (cases h3; done)
        obtain ⟨q1, q⟩ := Bool.and_eq_true_iff.mp h3
        obtain ⟨q2, q3⟩ := Bool.and_eq_true_iff.mp q
        rw [of_decide_eq_true q1, of_decide_eq_true q2, of_decide_eq_true q3]
      | val v => cases h3
  · cases e : PySem.W.recIn K (He.ma K (He.ga K c) m) "classmethod" with
    | none => rw [e] at h4; cases h4
    | some l =>
      rw [e] at h4
      cases l with
      | nil => cases h4
      | cons v r =>
        cases v with
        | ref g => exact ⟨r, by rw [of_decide_eq_true h4]⟩
        | _ => cases h4
end Hd
/-! ## short words over the layer -/
namespace Bs
open PySem PySem.Spec PyProof.Rows L2
variable {P : Program} {w : World} {K : PySem.W.Frag} {mg : Str → Option Value} {base : Heap}
/-- a promise's def, called by its name, no defaults asked -/
theorem mkCal {nm qual x : Str} {par : Arguments} {bd : List Stmt} {sco : Scope} {N ps : List Str} {k : Nat} {sp : Sp} {kws : List (Str × V)} {dvs dvs' : List V} {ds : List Value} {a : Addr} {fd : FuncData}
    (F : FunD K nm qual par bd sco dvs' kws a fd) (hm : mg x = some (.ref a)) (b : Binds K fd ps ds) (v : Vals dvs ds) (S : FnScope N ps sco) (len : ∀ vs H Q E, sp vs H Q E → vs.length = ps.length)
    (body : ∀ (cdv : Value) (A : Around) (outer : List Env) (s : Shared) (H : Hp) (vs : List V) (Q : VK) (E : XK), Room k (A.deeper (envOfC qual sco s.heap.objs.size a cdv)) → sp vs H Q E →
      ∃ t, PSs (cxOf C8.CX0 P w K mg base N qual sco a cdv A outer s H E).nox bd t ∧ t { nx := fun _ H' => Q .non H', rt := Q } (start N vs) H) : C8.Cal P w K mg base (k + 1) x sp dvs :=
  ⟨a, fd, ps, ds, F.ok S len fun cdv A outer s H vs Q E hr h => let ⟨t, h1, h2⟩ := body cdv A outer s H vs Q E hr h
    ⟨t, h1.nox, h2⟩, hm, F.kp, b, v⟩
theorem Cal.mono {j k : Nat} {x : Str} {sp : Sp} {dvs : List V} (c : C8.Cal P w K mg base j x sp dvs) (h : j ≤ k) : C8.Cal P w K mg base k x sp dvs := by
  obtain ⟨f, fd, ps, ds, F, r⟩ := c.ex
  exact ⟨f, fd, ps, ds, F.mono h, r⟩
/-- all is kept but what stands at p -/
def Kp (p : Addr) (H H' : Hp) : Prop := ∀ b o, H b = some o → b ≠ p → H' b = some o
theorem Kp.refl (p : Addr) (H : Hp) : Kp p H H := fun _ _ e _ => e
theorem Kp.trans {p : Addr} {H H1 H2 : Hp} (a : Kp p H H1) (b : Kp p H1 H2) : Kp p H H2 := fun c o e n => b c o (a c o e n) n
theorem Kp.of {p : Addr} {H H' : Hp} (a : Same H H') : Kp p H H' := fun c o e _ => a c o e
theorem Kp.upd {p : Addr} {H : Hp} {o : HO} : Kp p H (upd H p o) := fun c u e n => by rw [upd_ne n]; exact e
theorem Kp.new {p q : Addr} {H H' : Hp} {o : HO} (a : Kp p H H') (hq : H' q = none) : Kp p H (L2.upd H' q o) := fun c u e n => by rw [upd_ne (ne_of_none (a c u e n) hq)]; exact a c u e n
theorem Kp.put {p : Addr} {H H' : Hp} {o : HO} (a : Kp p H H') : Kp p H (L2.upd H' p o) := fun c u e n => by rw [upd_ne n]; exact a c u e n
/-- a step at an address that was free when the count began -/
theorem Kp.loc {p q : Addr} {H H' : Hp} {o : HO} (a : Kp p H H') (hq : H q = none) : Kp p H (L2.upd H' q o) := fun c u e n => by rw [upd_ne (ne_of_none e hq)]; exact a c u e n
theorem Same.new {q : Addr} {H H' : Hp} {o : HO} (a : Same H H') (hq : H' q = none) : Same H (L2.upd H' q o) := fun c u e => by rw [upd_ne (ne_of_none (a c u e) hq)]; exact a c u e
theorem Same.loc {q : Addr} {H H' : Hp} {o : HO} (a : Same H H') (hq : H q = none) : Same H (L2.upd H' q o) := fun c u e => by rw [upd_ne (ne_of_none e hq)]; exact a c u e
theorem SqL.kp {p a : Addr} {H H' : Hp} {xs : List V} (h : SqL K H a xs) (k : Kp p H H') (n : ∀ o, H a = some o → a ≠ p) : SqL K H' a xs := by
  rcases h with (h | ⟨o, h⟩) | h
  · exact .inl (.inl (k a _ h (n _ h)))
  · exact .inl (.inr ⟨o, k a _ h (n _ h)⟩)
  · exact .inr h
theorem SqT.kp {p a : Addr} {H H' : Hp} {xs : List V} (h : SqT K H a xs) (k : Kp p H H') (n : ∀ o, H a = some o → a ≠ p) : SqT K H' a xs := by
  rcases h with (h | ⟨o, h⟩) | h
  · exact .inl (.inl (k a _ h (n _ h)))
  · exact .inl (.inr ⟨o, k a _ h (n _ h)⟩)
  · exact .inr h
/-- the pen's dict: the script, the place of the next cell, what is left of a large one -/
def penD (a : Addr) (i l : Int) : HO := .dK [(Sum.inr "script", .ref a), (Sum.inr "at", .int i), (Sum.inr "left", .int l)]
/-- a locked list: nothing that runs changes it -/
def Fz (K : PySem.W.Frag) (H : Hp) (a : Addr) (xs : List V) : Prop := (∃ o, H a = some (.frz o (.lst xs))) ∨ ∀ H' : Hp, SqL K H' a xs
theorem Fz.sq {H : Hp} {a : Addr} {xs : List V} (h : Fz K H a xs) : SqL K H a xs := by
  rcases h with ⟨o, h⟩ | h
  · exact .inl (.inr ⟨o, h⟩)
  · exact h H
theorem Fz.to {H H' : Hp} {a : Addr} {xs : List V} (h : Fz K H a xs) (k : ∀ o u, H a = some (.frz o u) → H' a = some (.frz o u)) : Fz K H' a xs := by
  rcases h with ⟨o, h⟩ | h
  · exact .inl ⟨o, k _ _ h⟩
  · exact .inr h
theorem Fz.only {H : Hp} {a : Addr} {xs : List V} (o : Only H) (h : SqL K H a xs) : Fz K H a xs := by
  rcases h with (h | h) | h
  · rcases o a with e | ⟨_, _, e⟩
    · rw [e] at h; cases h
    · rw [e] at h; cases h
  · exact .inl h
  · exact .inr fun _ => .inr h
/-- what is at q is no locked thing -/
def Loose (H : Hp) (q : Addr) : Prop := ∀ o u, H q ≠ some (.frz o u)
theorem Loose.nil {H : Hp} {q : Addr} (h : H q = none) : Loose H q := fun o u e => by rw [h] at e; cases e
theorem Loose.lst {H : Hp} {q : Addr} {xs : List V} (h : H q = some (.lst xs)) : Loose H q := fun o u e => by rw [h] at e; cases e
theorem Loose.dK {H : Hp} {q : Addr} {xs : List (Key × V)} (h : H q = some (.dK xs)) : Loose H q := fun o u e => by rw [h] at e; cases e
theorem Fz.upd {H : Hp} {q a : Addr} {xs : List V} {u : HO} (h : Fz K H a xs) (l : Loose H q) : Fz K (L2.upd H q u) a xs :=
  h.to fun o v e => by rw [upd_ne (fun z => l o v (by rw [← z]; exact e))]; exact e
/-- a pen at p that has drawn at most n cells -/
def Pen (K : PySem.W.Frag) (H : Hp) (p : Addr) (n : Nat) : Prop := ∃ (a : Addr) (ns : List Int) (i l : Int), H p = some (penD a i l) ∧ Fz K H a (ns.map V.int) ∧ ns.length ≤ 63 ∧ 0 ≤ i ∧ i ≤ n ∧ 0 ≤ l
theorem Pen.mono {H : Hp} {p : Addr} {n m : Nat} (h : Pen K H p n) (l : n ≤ m) : Pen K H p m := by
  obtain ⟨a, ns, i, q, h1, h2, h3, h4, h5, h6⟩ := h
  exact ⟨a, ns, i, q, h1, h2, h3, h4, by omega, h6⟩
theorem Fz.kpen {H H' : Hp} {p a : Addr} {i l : Int} {b : Addr} {xs : List V} (h : H p = some (penD a i l)) (s : Fz K H b xs) (k : Kp p H H') : Fz K H' b xs :=
  s.to fun o u e => k b _ e (ne_of e h (by intro z; cases z))
/-- other objects are made or changed, the pen is not -/
theorem Pen.same {H H' : Hp} {p : Addr} {n : Nat} (h : Pen K H p n) (k : Same H H') : Pen K H' p n := by
  obtain ⟨a, ns, i, q, h1, h2, h3, h4, h5, h6⟩ := h
  exact ⟨a, ns, i, q, k _ _ h1, h2.to fun _ _ e => k _ _ e, h3, h4, h5, h6⟩
theorem Pen.upd {H : Hp} {p q : Addr} {n : Nat} {o : HO} (h : Pen K H p n) (hq : H q = none) : Pen K (L2.upd H q o) p n := h.same (Same.new (Same.refl H) hq)
theorem Pen.put {H : Hp} {p q : Addr} {n : Nat} {o : HO} {xs : List V} (h : Pen K H p n) (hq : H q = .some (.lst xs)) : Pen K (L2.upd H q o) p n := by
  obtain ⟨a, ns, i, l, h1, h2, h3, h4, h5, h6⟩ := h
  exact ⟨a, ns, i, l, by rw [upd_ne (ne_of h1 hq (by intro z; cases z))]; exact h1, h2.upd (Loose.lst hq), h3, h4, h5, h6⟩
theorem Kp.free {p D : Addr} {H H' : Hp} (k : Kp p H H') (h : H' D = none) (hp : H' p ≠ none) : H D = none := by
  have ne : D ≠ p := fun q => hp (by rw [← q]; exact h)
  cases e : H D with
  | none => rfl
  | some o => rw [k D o e ne] at h; cases h
theorem Pen.ne {H : Hp} {p D : Addr} {n : Nat} (h : Pen K H p n) (e : H D = none) : D ≠ p := by
  obtain ⟨_, _, _, _, hp, _⟩ := h
  exact (ne_of_none hp e).symm
theorem Pen.there {H : Hp} {p : Addr} {n : Nat} (h : Pen K H p n) : H p ≠ none := by
  obtain ⟨_, _, _, _, hp, _⟩ := h
  rw [hp]
  exact fun q => by cases q
theorem Pen.nel {H : Hp} {p D : Addr} {n : Nat} {xs : List V} (h : Pen K H p n) (e : H D = .some (.lst xs)) : D ≠ p := by
  obtain ⟨_, _, _, _, hp, _⟩ := h
  exact ne_of e hp (by intro z; cases z)
theorem Pen.net {H : Hp} {p D : Addr} {n : Nat} {xs : List V} (h : Pen K H p n) (e : H D = .some (.tup xs)) : D ≠ p := by
  obtain ⟨_, _, _, _, hp, _⟩ := h
  exact ne_of e hp (by intro z; cases z)
theorem script_ne : ¬ (("script" : Str) = "at") ∧ ¬ (("script" : Str) = "left") ∧ ¬ (("at" : Str) = "left") ∧ ¬ (("at" : Str) = "script") ∧ ¬ (("left" : Str) = "script") ∧ ¬ (("left" : Str) = "at") := by decide +kernel
theorem atI_of {α : Type} {xs : List α} {k : Int} (h0 : 0 ≤ k) (h1 : k < (xs.length : Nat)) : ∃ v, atI xs k = some v ∧ v ∈ xs ∧ xs[k.toNat]? = some v := by
  have hk : k.toNat < xs.length := by omega
  have ek : k = ((k.toNat : Nat) : Int) := by omega
  refine ⟨xs[k.toNat], ?_, List.getElem_mem hk, List.getElem?_eq_getElem hk⟩
  have z : atI xs ((k.toNat : Nat) : Int) = some xs[k.toNat] := atI_nat (List.getElem?_eq_getElem hk)
  rw [← ek] at z
  exact z
theorem atI_int {ns : List Int} {k : Int} (h0 : 0 ≤ k) (h1 : k < (ns.length : Nat)) : ∃ v : Int, atI (ns.map V.int) k = some (.int v) ∧ v ∈ ns := by
  obtain ⟨x, e, hx, _⟩ := atI_of (xs := ns.map V.int) h0 (by rw [List.length_map]; exact h1)
  obtain ⟨v, hv, rfl⟩ := List.mem_map.mp hx
  exact ⟨v, e, hv⟩
end Bs
namespace Pf
open PySem PySem.Spec PyProof.Rows L2
def top (i : Nat) : Stmt := PySem.Challenge.pw_splitplans_k04_terms_read.main.body.getD i (.Pass ⟨0, 0, 0, 0⟩)
abbrev s_is_name : Stmt := top 10
abbrev s_Term_init : Stmt := inClass (top 13) 0
abbrev s_Term_read : Stmt := inClass (top 13) 1
abbrev s_Term_depth : Stmt := inClass (top 13) 2
abbrev s_Term_eq : Stmt := inClass (top 13) 6
abbrev s_Term_str : Stmt := inClass (top 13) 7
abbrev s_row_term : Stmt := top 14
abbrev s_column_term : Stmt := top 15
abbrev s_place_term : Stmt := top 16
abbrev s_zero_term : Stmt := top 17
abbrev s_function_term : Stmt := top 18
abbrev s_rule_term : Stmt := top 19
abbrev s_text_of : Stmt := top 20
abbrev s_read_term : Stmt := top 21
abbrev s_read_row : Stmt := top 22
abbrev s_read_value : Stmt := top 23
abbrev s_read_call : Stmt := top 24
abbrev s_pieces : Stmt := top 25
abbrev s_Lpen : Stmt := top 27
abbrev s_Ldraw : Stmt := top 28
abbrev s_Lwords : Stmt := top 29
abbrev s_Lnames : Stmt := top 30
abbrev s_Ltext : Stmt := top 31
abbrev s_Llot : Stmt := top 32
abbrev s_Lrow : Stmt := top 33
abbrev s_Lcolumn : Stmt := top 34
abbrev s_Lvalue : Stmt := top 35
abbrev s_Lterm : Stmt := top 36
abbrev s_Lapplied : Stmt := top 37
abbrev s_Lbuilt : Stmt := top 38
abbrev s_Lis : Stmt := top 39
abbrev s_Lnested : Stmt := top 40
abbrev s_law : Stmt := top 41
def d_is_name : Hd.Dn := Hd.dG "is_name" s_is_name [] []
def d_Term_init : Hd.Dn := Hd.dM "Term" "__init__" "Term.__init__" s_Term_init [.bl false] []
def d_Term_read : Hd.Dn := Hd.dR "classmethod" "Term" "read" "Term.read" s_Term_read [] []
def d_Term_depth : Hd.Dn := Hd.dR "property" "Term" "depth" "Term.depth" s_Term_depth [] []
def d_Term_eq : Hd.Dn := Hd.dM "Term" "__eq__" "Term.__eq__" s_Term_eq [] []
def d_Term_str : Hd.Dn := Hd.dM "Term" "__str__" "Term.__str__" s_Term_str [] []
def d_row_term : Hd.Dn := Hd.dG "row_term" s_row_term [.bl false] []
def d_column_term : Hd.Dn := Hd.dG "column_term" s_column_term [.bl false] []
def d_place_term : Hd.Dn := Hd.dG "place_term" s_place_term [.bl false] []
def d_zero_term : Hd.Dn := Hd.dG "zero_term" s_zero_term [] []
def d_function_term : Hd.Dn := Hd.dG "function_term" s_function_term [] []
def d_rule_term : Hd.Dn := Hd.dG "rule_term" s_rule_term [] []
def d_text_of : Hd.Dn := Hd.dG "_text_of" s_text_of [] []
def d_read_term : Hd.Dn := Hd.dG "_read_term" s_read_term [] []
def d_read_row : Hd.Dn := Hd.dG "_read_row" s_read_row [] []
def d_read_value : Hd.Dn := Hd.dG "_read_value" s_read_value [] []
def d_read_call : Hd.Dn := Hd.dG "_read_call" s_read_call [] []
def d_pieces : Hd.Dn := Hd.dG "_pieces" s_pieces [] []
def d_Lpen : Hd.Dn := Hd.dG "_law_pen" s_Lpen [] []
def d_Ldraw : Hd.Dn := Hd.dG "_law_draw" s_Ldraw [] []
def d_Lwords : Hd.Dn := Hd.dG "_law_words" s_Lwords [] []
def d_Lnames : Hd.Dn := Hd.dG "_law_names" s_Lnames [] []
def d_Ltext : Hd.Dn := Hd.dG "_law_text" s_Ltext [] []
def d_Llot : Hd.Dn := Hd.dG "_law_lot" s_Llot [] []
def d_Lrow : Hd.Dn := Hd.dG "_law_row" s_Lrow [] []
def d_Lcolumn : Hd.Dn := Hd.dG "_law_column" s_Lcolumn [] []
def d_Lvalue : Hd.Dn := Hd.dG "_law_value" s_Lvalue [] []
def d_Lterm : Hd.Dn := Hd.dG "_law_term" s_Lterm [] []
def d_Lapplied : Hd.Dn := Hd.dG "_law_applied" s_Lapplied [] []
def d_Lbuilt : Hd.Dn := Hd.dG "_law_built" s_Lbuilt [] []
def d_Lis : Hd.Dn := Hd.dG "_law_is" s_Lis [] []
def d_Lnested : Hd.Dn := Hd.dG "_law_nested" s_Lnested [] []
def d_law : Hd.Dn := Hd.dG "law" s_law [] []
def defs : List Hd.Dn := [d_is_name, d_Term_init, d_Term_read, d_Term_depth, d_Term_eq, d_Term_str, d_row_term, d_column_term, d_place_term, d_zero_term, d_function_term, d_rule_term, d_text_of, d_read_term, d_read_row, d_read_value, d_read_call, d_pieces, d_Lpen, d_Ldraw, d_Lwords, d_Lnames, d_Ltext, d_Llot, d_Lrow, d_Lcolumn, d_Lvalue, d_Lterm, d_Lapplied, d_Lbuilt, d_Lis, d_Lnested, d_law]
def fa : List He.Fa := [.glo "PlanError", .glo "InputError", .glo "InvalidTerm", .glo "is_name", .glo "Term", .glo "row_term", .glo "column_term", .glo "place_term", .glo "zero_term", .glo "function_term", .glo "rule_term", .glo "_text_of", .glo "_read_term", .glo "_read_row", .glo "_read_value", .glo "_read_call", .glo "_pieces", .glo "_law_pen", .glo "_law_draw", .glo "_law_words", .glo "_law_names", .glo "_law_text", .glo "_law_lot", .glo "_law_row", .glo "_law_column", .glo "_law_value", .glo "_law_term", .glo "_law_applied", .glo "_law_built", .glo "_law_is", .glo "_law_nested", .glo "law", .free "abs", .free "all", .free "bool", .free "int", .free "isinstance", .free "len", .free "list", .free "max", .free "range", .free "str", .free "tuple", .free "zip", .glo "WORDS", .int "MOST_CHARACTERS" 8, .int "MOST_PARTS" 3, .str "LETTERS" "abcdefghijklmnopqrstuvwxyz", .str "CHARACTERS" "abcdefghijklmnopqrstuvwxyz0123456789_", .cls "Term", .mkr "Term", .noat "Term" "kind", .noat "Term" "name", .noat "Term" "parts", .noat "Term" "marked", .noat "Term" "text", .noat "Term" "_depth", .meth "Term" "__init__", .meth "Term" "__eq__", .meth "Term" "__str__"]
def loose0 : List PySem.Str := ["_wall", "PlanError", "InputError", "InvalidTerm", "MOST_CHARACTERS", "LETTERS", "CHARACTERS", "WORDS", "is_name", "MOST_PARTS", "Term", "row_term", "column_term", "place_term", "zero_term", "function_term", "rule_term", "_text_of", "_read_term", "_read_row"]
def loose1 : List PySem.Str := ["_read_value", "_read_call", "_pieces", "_law_pen", "_law_draw", "_law_words", "_law_names", "_law_text", "_law_lot", "_law_row", "_law_column", "_law_value", "_law_term", "_law_applied", "_law_built", "_law_is", "_law_nested"]
def looseN : List PySem.Str := loose0 ++ loose1
def wordsD : List He.Dv := [.str "table", .str "key", .str "dealt", .str "anyhow", .str "copied", .str "zero", .str "scan", .str "where", .str "compute", .str "equal", .str "keep", .str "distinct", .str "group", .str "with", .str "count", .str "sum", .str "sort", .str "own", .str "split", .str "broadcast", .str "gather", .str "merge", .str "join", .str "semi", .str "anti", .str "union", .str "answer", .str "in", .str "self"]
def ex (K : PySem.W.Frag) : Bool := (Hd.insB "Term" K && (Hd.kitsB "Term" ["NoneType", "bool", "int", "str", "list", "tuple", "dict"] K && (Hd.propB "Term" "depth" K && (Hd.attB "Term" "__ne__" (.builtin "object.__ne__") K && (Hd.cmB "Term" "read" K && (He.tupB K "WORDS" wordsD && true))))))
/-- what the head tells -/
structure Tx (K : PySem.W.Frag) (mg : Str → Option Value) : Prop where
  says : Hd.Says fa ex defs K
  glo : ∀ x, He.Fa.glo x ∈ fa → mg x = some (.ref (He.ga K x))
  fre : ∀ x, He.Fa.free x ∈ fa → mg x = none
  cin : ∀ x i, He.Fa.int x i ∈ fa → ∃ t, mg x = some (.int i t)
  cst : ∀ x z, He.Fa.str x z ∈ fa → ∃ t, mg x = some (.str z t)
section
variable {K : PySem.W.Frag} {mg : Str → Option Value}
theorem g_PlanError (T : Tx K mg) : mg "PlanError" = some (.ref (He.ga K "PlanError")) := T.glo _ (List.mem_of_getElem? (i := 0) rfl)
theorem g_InputError (T : Tx K mg) : mg "InputError" = some (.ref (He.ga K "InputError")) := T.glo _ (List.mem_of_getElem? (i := 1) rfl)
theorem g_InvalidTerm (T : Tx K mg) : mg "InvalidTerm" = some (.ref (He.ga K "InvalidTerm")) := T.glo _ (List.mem_of_getElem? (i := 2) rfl)
theorem g_is_name (T : Tx K mg) : mg "is_name" = some (.ref (He.ga K "is_name")) := T.glo _ (List.mem_of_getElem? (i := 3) rfl)
theorem g_Term (T : Tx K mg) : mg "Term" = some (.ref (He.ga K "Term")) := T.glo _ (List.mem_of_getElem? (i := 4) rfl)
theorem g_row_term (T : Tx K mg) : mg "row_term" = some (.ref (He.ga K "row_term")) := T.glo _ (List.mem_of_getElem? (i := 5) rfl)
theorem g_column_term (T : Tx K mg) : mg "column_term" = some (.ref (He.ga K "column_term")) := T.glo _ (List.mem_of_getElem? (i := 6) rfl)
theorem g_place_term (T : Tx K mg) : mg "place_term" = some (.ref (He.ga K "place_term")) := T.glo _ (List.mem_of_getElem? (i := 7) rfl)
theorem g_zero_term (T : Tx K mg) : mg "zero_term" = some (.ref (He.ga K "zero_term")) := T.glo _ (List.mem_of_getElem? (i := 8) rfl)
theorem g_function_term (T : Tx K mg) : mg "function_term" = some (.ref (He.ga K "function_term")) := T.glo _ (List.mem_of_getElem? (i := 9) rfl)
theorem g_rule_term (T : Tx K mg) : mg "rule_term" = some (.ref (He.ga K "rule_term")) := T.glo _ (List.mem_of_getElem? (i := 10) rfl)
theorem g_text_of (T : Tx K mg) : mg "_text_of" = some (.ref (He.ga K "_text_of")) := T.glo _ (List.mem_of_getElem? (i := 11) rfl)
theorem g_read_term (T : Tx K mg) : mg "_read_term" = some (.ref (He.ga K "_read_term")) := T.glo _ (List.mem_of_getElem? (i := 12) rfl)
theorem g_read_row (T : Tx K mg) : mg "_read_row" = some (.ref (He.ga K "_read_row")) := T.glo _ (List.mem_of_getElem? (i := 13) rfl)
theorem g_read_value (T : Tx K mg) : mg "_read_value" = some (.ref (He.ga K "_read_value")) := T.glo _ (List.mem_of_getElem? (i := 14) rfl)
theorem g_read_call (T : Tx K mg) : mg "_read_call" = some (.ref (He.ga K "_read_call")) := T.glo _ (List.mem_of_getElem? (i := 15) rfl)
theorem g_pieces (T : Tx K mg) : mg "_pieces" = some (.ref (He.ga K "_pieces")) := T.glo _ (List.mem_of_getElem? (i := 16) rfl)
theorem g_law_pen (T : Tx K mg) : mg "_law_pen" = some (.ref (He.ga K "_law_pen")) := T.glo _ (List.mem_of_getElem? (i := 17) rfl)
theorem g_law_draw (T : Tx K mg) : mg "_law_draw" = some (.ref (He.ga K "_law_draw")) := T.glo _ (List.mem_of_getElem? (i := 18) rfl)
theorem g_law_words (T : Tx K mg) : mg "_law_words" = some (.ref (He.ga K "_law_words")) := T.glo _ (List.mem_of_getElem? (i := 19) rfl)
theorem g_law_names (T : Tx K mg) : mg "_law_names" = some (.ref (He.ga K "_law_names")) := T.glo _ (List.mem_of_getElem? (i := 20) rfl)
theorem g_law_text (T : Tx K mg) : mg "_law_text" = some (.ref (He.ga K "_law_text")) := T.glo _ (List.mem_of_getElem? (i := 21) rfl)
theorem g_law_lot (T : Tx K mg) : mg "_law_lot" = some (.ref (He.ga K "_law_lot")) := T.glo _ (List.mem_of_getElem? (i := 22) rfl)
theorem g_law_row (T : Tx K mg) : mg "_law_row" = some (.ref (He.ga K "_law_row")) := T.glo _ (List.mem_of_getElem? (i := 23) rfl)
theorem g_law_column (T : Tx K mg) : mg "_law_column" = some (.ref (He.ga K "_law_column")) := T.glo _ (List.mem_of_getElem? (i := 24) rfl)
theorem g_law_value (T : Tx K mg) : mg "_law_value" = some (.ref (He.ga K "_law_value")) := T.glo _ (List.mem_of_getElem? (i := 25) rfl)
theorem g_law_term (T : Tx K mg) : mg "_law_term" = some (.ref (He.ga K "_law_term")) := T.glo _ (List.mem_of_getElem? (i := 26) rfl)
theorem g_law_applied (T : Tx K mg) : mg "_law_applied" = some (.ref (He.ga K "_law_applied")) := T.glo _ (List.mem_of_getElem? (i := 27) rfl)
theorem g_law_built (T : Tx K mg) : mg "_law_built" = some (.ref (He.ga K "_law_built")) := T.glo _ (List.mem_of_getElem? (i := 28) rfl)
theorem g_law_is (T : Tx K mg) : mg "_law_is" = some (.ref (He.ga K "_law_is")) := T.glo _ (List.mem_of_getElem? (i := 29) rfl)
theorem g_law_nested (T : Tx K mg) : mg "_law_nested" = some (.ref (He.ga K "_law_nested")) := T.glo _ (List.mem_of_getElem? (i := 30) rfl)
theorem g_law (T : Tx K mg) : mg "law" = some (.ref (He.ga K "law")) := T.glo _ (List.mem_of_getElem? (i := 31) rfl)
theorem z_abs (T : Tx K mg) : mg "abs" = none := T.fre _ (List.mem_of_getElem? (i := 32) rfl)
theorem z_all (T : Tx K mg) : mg "all" = none := T.fre _ (List.mem_of_getElem? (i := 33) rfl)
theorem z_bool (T : Tx K mg) : mg "bool" = none := T.fre _ (List.mem_of_getElem? (i := 34) rfl)
theorem z_int (T : Tx K mg) : mg "int" = none := T.fre _ (List.mem_of_getElem? (i := 35) rfl)
theorem z_isinstance (T : Tx K mg) : mg "isinstance" = none := T.fre _ (List.mem_of_getElem? (i := 36) rfl)
theorem z_len (T : Tx K mg) : mg "len" = none := T.fre _ (List.mem_of_getElem? (i := 37) rfl)
theorem z_list (T : Tx K mg) : mg "list" = none := T.fre _ (List.mem_of_getElem? (i := 38) rfl)
theorem z_max (T : Tx K mg) : mg "max" = none := T.fre _ (List.mem_of_getElem? (i := 39) rfl)
theorem z_range (T : Tx K mg) : mg "range" = none := T.fre _ (List.mem_of_getElem? (i := 40) rfl)
theorem z_str (T : Tx K mg) : mg "str" = none := T.fre _ (List.mem_of_getElem? (i := 41) rfl)
theorem z_tuple (T : Tx K mg) : mg "tuple" = none := T.fre _ (List.mem_of_getElem? (i := 42) rfl)
theorem z_zip (T : Tx K mg) : mg "zip" = none := T.fre _ (List.mem_of_getElem? (i := 43) rfl)
theorem g_WORDS (T : Tx K mg) : mg "WORDS" = some (.ref (He.ga K "WORDS")) := T.glo _ (List.mem_of_getElem? (i := 44) rfl)
theorem ci_MOST_CHARACTERS (T : Tx K mg) : ∃ t, mg "MOST_CHARACTERS" = some (.int 8 t) := T.cin _ _ (List.mem_of_getElem? (i := 45) rfl)
theorem ci_MOST_PARTS (T : Tx K mg) : ∃ t, mg "MOST_PARTS" = some (.int 3 t) := T.cin _ _ (List.mem_of_getElem? (i := 46) rfl)
theorem cs_LETTERS (T : Tx K mg) : ∃ t, mg "LETTERS" = some (.str "abcdefghijklmnopqrstuvwxyz" t) := T.cst _ _ (List.mem_of_getElem? (i := 47) rfl)
theorem cs_CHARACTERS (T : Tx K mg) : ∃ t, mg "CHARACTERS" = some (.str "abcdefghijklmnopqrstuvwxyz0123456789_" t) := T.cst _ _ (List.mem_of_getElem? (i := 48) rfl)
theorem cls_Term_ (T : Tx K mg) : Cls K (He.ga K "Term") := He.cls_ok (T.says.fact (List.mem_of_getElem? (i := 49) rfl))
theorem mkr_Term_ (T : Tx K mg) : Mk K (He.ga K "Term") (He.ma K (He.ga K "Term") "__init__") := He.mkr_ok (T.says.fact (List.mem_of_getElem? (i := 50) rfl))
theorem noat_Term_kind (T : Tx K mg) : NoAttr K (He.ga K "Term") "kind" := He.noat_ok (T.says.fact (List.mem_of_getElem? (i := 51) rfl))
theorem noat_Term_name (T : Tx K mg) : NoAttr K (He.ga K "Term") "name" := He.noat_ok (T.says.fact (List.mem_of_getElem? (i := 52) rfl))
theorem noat_Term_parts (T : Tx K mg) : NoAttr K (He.ga K "Term") "parts" := He.noat_ok (T.says.fact (List.mem_of_getElem? (i := 53) rfl))
theorem noat_Term_marked (T : Tx K mg) : NoAttr K (He.ga K "Term") "marked" := He.noat_ok (T.says.fact (List.mem_of_getElem? (i := 54) rfl))
theorem noat_Term_text (T : Tx K mg) : NoAttr K (He.ga K "Term") "text" := He.noat_ok (T.says.fact (List.mem_of_getElem? (i := 55) rfl))
theorem noat_Term_depth (T : Tx K mg) : NoAttr K (He.ga K "Term") "_depth" := He.noat_ok (T.says.fact (List.mem_of_getElem? (i := 56) rfl))
theorem meth_Term_init (T : Tx K mg) : Meth K (He.ga K "Term") "__init__" (He.ma K (He.ga K "Term") "__init__") := He.meth_ok (T.says.fact (List.mem_of_getElem? (i := 57) rfl))
theorem meth_Term_eq (T : Tx K mg) : Meth K (He.ga K "Term") "__eq__" (He.ma K (He.ga K "Term") "__eq__") := He.meth_ok (T.says.fact (List.mem_of_getElem? (i := 58) rfl))
theorem meth_Term_str (T : Tx K mg) : Meth K (He.ga K "Term") "__str__" (He.ma K (He.ga K "Term") "__str__") := He.meth_ok (T.says.fact (List.mem_of_getElem? (i := 59) rfl))
theorem exr_0 (T : Tx K mg) : (Hd.insB "Term" K && (Hd.kitsB "Term" ["NoneType", "bool", "int", "str", "list", "tuple", "dict"] K && (Hd.propB "Term" "depth" K && (Hd.attB "Term" "__ne__" (.builtin "object.__ne__") K && (Hd.cmB "Term" "read" K && (He.tupB K "WORDS" wordsD && true)))))) = true := T.says.more
theorem ex_0 (T : Tx K mg) : Hd.insB "Term" K = true := (Bool.and_eq_true_iff.mp (exr_0 T)).1
theorem exr_1 (T : Tx K mg) : (Hd.kitsB "Term" ["NoneType", "bool", "int", "str", "list", "tuple", "dict"] K && (Hd.propB "Term" "depth" K && (Hd.attB "Term" "__ne__" (.builtin "object.__ne__") K && (Hd.cmB "Term" "read" K && (He.tupB K "WORDS" wordsD && true))))) = true := (Bool.and_eq_true_iff.mp (exr_0 T)).2
theorem ex_1 (T : Tx K mg) : Hd.kitsB "Term" ["NoneType", "bool", "int", "str", "list", "tuple", "dict"] K = true := (Bool.and_eq_true_iff.mp (exr_1 T)).1
theorem exr_2 (T : Tx K mg) : (Hd.propB "Term" "depth" K && (Hd.attB "Term" "__ne__" (.builtin "object.__ne__") K && (Hd.cmB "Term" "read" K && (He.tupB K "WORDS" wordsD && true)))) = true := (Bool.and_eq_true_iff.mp (exr_1 T)).2
theorem ex_2 (T : Tx K mg) : Hd.propB "Term" "depth" K = true := (Bool.and_eq_true_iff.mp (exr_2 T)).1
theorem exr_3 (T : Tx K mg) : (Hd.attB "Term" "__ne__" (.builtin "object.__ne__") K && (Hd.cmB "Term" "read" K && (He.tupB K "WORDS" wordsD && true))) = true := (Bool.and_eq_true_iff.mp (exr_2 T)).2
theorem ex_3 (T : Tx K mg) : Hd.attB "Term" "__ne__" (.builtin "object.__ne__") K = true := (Bool.and_eq_true_iff.mp (exr_3 T)).1
theorem exr_4 (T : Tx K mg) : (Hd.cmB "Term" "read" K && (He.tupB K "WORDS" wordsD && true)) = true := (Bool.and_eq_true_iff.mp (exr_3 T)).2
theorem ex_4 (T : Tx K mg) : Hd.cmB "Term" "read" K = true := (Bool.and_eq_true_iff.mp (exr_4 T)).1
theorem exr_5 (T : Tx K mg) : (He.tupB K "WORDS" wordsD && true) = true := (Bool.and_eq_true_iff.mp (exr_4 T)).2
theorem ex_5 (T : Tx K mg) : He.tupB K "WORDS" wordsD = true := (Bool.and_eq_true_iff.mp (exr_5 T)).1
theorem f_is_name (T : Tx K mg) : ∃ fd, FunD K d_is_name.2.name d_is_name.2.qual d_is_name.2.params d_is_name.2.body d_is_name.2.scope (d_is_name.2.dvs K) (d_is_name.2.kws K) (d_is_name.1 K) fd := T.says.fun_ 0 rfl
theorem f_Term_init (T : Tx K mg) : ∃ fd, FunD K d_Term_init.2.name d_Term_init.2.qual d_Term_init.2.params d_Term_init.2.body d_Term_init.2.scope (d_Term_init.2.dvs K) (d_Term_init.2.kws K) (d_Term_init.1 K) fd := T.says.fun_ 1 rfl
theorem f_Term_read (T : Tx K mg) : ∃ fd, FunD K d_Term_read.2.name d_Term_read.2.qual d_Term_read.2.params d_Term_read.2.body d_Term_read.2.scope (d_Term_read.2.dvs K) (d_Term_read.2.kws K) (d_Term_read.1 K) fd := T.says.fun_ 2 rfl
theorem f_Term_depth (T : Tx K mg) : ∃ fd, FunD K d_Term_depth.2.name d_Term_depth.2.qual d_Term_depth.2.params d_Term_depth.2.body d_Term_depth.2.scope (d_Term_depth.2.dvs K) (d_Term_depth.2.kws K) (d_Term_depth.1 K) fd := T.says.fun_ 3 rfl
theorem f_Term_eq (T : Tx K mg) : ∃ fd, FunD K d_Term_eq.2.name d_Term_eq.2.qual d_Term_eq.2.params d_Term_eq.2.body d_Term_eq.2.scope (d_Term_eq.2.dvs K) (d_Term_eq.2.kws K) (d_Term_eq.1 K) fd := T.says.fun_ 4 rfl
theorem f_Term_str (T : Tx K mg) : ∃ fd, FunD K d_Term_str.2.name d_Term_str.2.qual d_Term_str.2.params d_Term_str.2.body d_Term_str.2.scope (d_Term_str.2.dvs K) (d_Term_str.2.kws K) (d_Term_str.1 K) fd := T.says.fun_ 5 rfl
theorem f_row_term (T : Tx K mg) : ∃ fd, FunD K d_row_term.2.name d_row_term.2.qual d_row_term.2.params d_row_term.2.body d_row_term.2.scope (d_row_term.2.dvs K) (d_row_term.2.kws K) (d_row_term.1 K) fd := T.says.fun_ 6 rfl
theorem f_column_term (T : Tx K mg) : ∃ fd, FunD K d_column_term.2.name d_column_term.2.qual d_column_term.2.params d_column_term.2.body d_column_term.2.scope (d_column_term.2.dvs K) (d_column_term.2.kws K) (d_column_term.1 K) fd := T.says.fun_ 7 rfl
theorem f_place_term (T : Tx K mg) : ∃ fd, FunD K d_place_term.2.name d_place_term.2.qual d_place_term.2.params d_place_term.2.body d_place_term.2.scope (d_place_term.2.dvs K) (d_place_term.2.kws K) (d_place_term.1 K) fd := T.says.fun_ 8 rfl
theorem f_zero_term (T : Tx K mg) : ∃ fd, FunD K d_zero_term.2.name d_zero_term.2.qual d_zero_term.2.params d_zero_term.2.body d_zero_term.2.scope (d_zero_term.2.dvs K) (d_zero_term.2.kws K) (d_zero_term.1 K) fd := T.says.fun_ 9 rfl
theorem f_function_term (T : Tx K mg) : ∃ fd, FunD K d_function_term.2.name d_function_term.2.qual d_function_term.2.params d_function_term.2.body d_function_term.2.scope (d_function_term.2.dvs K) (d_function_term.2.kws K) (d_function_term.1 K) fd := T.says.fun_ 10 rfl
theorem f_rule_term (T : Tx K mg) : ∃ fd, FunD K d_rule_term.2.name d_rule_term.2.qual d_rule_term.2.params d_rule_term.2.body d_rule_term.2.scope (d_rule_term.2.dvs K) (d_rule_term.2.kws K) (d_rule_term.1 K) fd := T.says.fun_ 11 rfl
theorem f_text_of (T : Tx K mg) : ∃ fd, FunD K d_text_of.2.name d_text_of.2.qual d_text_of.2.params d_text_of.2.body d_text_of.2.scope (d_text_of.2.dvs K) (d_text_of.2.kws K) (d_text_of.1 K) fd := T.says.fun_ 12 rfl
theorem f_read_term (T : Tx K mg) : ∃ fd, FunD K d_read_term.2.name d_read_term.2.qual d_read_term.2.params d_read_term.2.body d_read_term.2.scope (d_read_term.2.dvs K) (d_read_term.2.kws K) (d_read_term.1 K) fd := T.says.fun_ 13 rfl
theorem f_read_row (T : Tx K mg) : ∃ fd, FunD K d_read_row.2.name d_read_row.2.qual d_read_row.2.params d_read_row.2.body d_read_row.2.scope (d_read_row.2.dvs K) (d_read_row.2.kws K) (d_read_row.1 K) fd := T.says.fun_ 14 rfl
theorem f_read_value (T : Tx K mg) : ∃ fd, FunD K d_read_value.2.name d_read_value.2.qual d_read_value.2.params d_read_value.2.body d_read_value.2.scope (d_read_value.2.dvs K) (d_read_value.2.kws K) (d_read_value.1 K) fd := T.says.fun_ 15 rfl
theorem f_read_call (T : Tx K mg) : ∃ fd, FunD K d_read_call.2.name d_read_call.2.qual d_read_call.2.params d_read_call.2.body d_read_call.2.scope (d_read_call.2.dvs K) (d_read_call.2.kws K) (d_read_call.1 K) fd := T.says.fun_ 16 rfl
theorem f_pieces (T : Tx K mg) : ∃ fd, FunD K d_pieces.2.name d_pieces.2.qual d_pieces.2.params d_pieces.2.body d_pieces.2.scope (d_pieces.2.dvs K) (d_pieces.2.kws K) (d_pieces.1 K) fd := T.says.fun_ 17 rfl
theorem f_Lpen (T : Tx K mg) : ∃ fd, FunD K d_Lpen.2.name d_Lpen.2.qual d_Lpen.2.params d_Lpen.2.body d_Lpen.2.scope (d_Lpen.2.dvs K) (d_Lpen.2.kws K) (d_Lpen.1 K) fd := T.says.fun_ 18 rfl
theorem f_Ldraw (T : Tx K mg) : ∃ fd, FunD K d_Ldraw.2.name d_Ldraw.2.qual d_Ldraw.2.params d_Ldraw.2.body d_Ldraw.2.scope (d_Ldraw.2.dvs K) (d_Ldraw.2.kws K) (d_Ldraw.1 K) fd := T.says.fun_ 19 rfl
theorem f_Lwords (T : Tx K mg) : ∃ fd, FunD K d_Lwords.2.name d_Lwords.2.qual d_Lwords.2.params d_Lwords.2.body d_Lwords.2.scope (d_Lwords.2.dvs K) (d_Lwords.2.kws K) (d_Lwords.1 K) fd := T.says.fun_ 20 rfl
theorem f_Lnames (T : Tx K mg) : ∃ fd, FunD K d_Lnames.2.name d_Lnames.2.qual d_Lnames.2.params d_Lnames.2.body d_Lnames.2.scope (d_Lnames.2.dvs K) (d_Lnames.2.kws K) (d_Lnames.1 K) fd := T.says.fun_ 21 rfl
theorem f_Ltext (T : Tx K mg) : ∃ fd, FunD K d_Ltext.2.name d_Ltext.2.qual d_Ltext.2.params d_Ltext.2.body d_Ltext.2.scope (d_Ltext.2.dvs K) (d_Ltext.2.kws K) (d_Ltext.1 K) fd := T.says.fun_ 22 rfl
theorem f_Llot (T : Tx K mg) : ∃ fd, FunD K d_Llot.2.name d_Llot.2.qual d_Llot.2.params d_Llot.2.body d_Llot.2.scope (d_Llot.2.dvs K) (d_Llot.2.kws K) (d_Llot.1 K) fd := T.says.fun_ 23 rfl
theorem f_Lrow (T : Tx K mg) : ∃ fd, FunD K d_Lrow.2.name d_Lrow.2.qual d_Lrow.2.params d_Lrow.2.body d_Lrow.2.scope (d_Lrow.2.dvs K) (d_Lrow.2.kws K) (d_Lrow.1 K) fd := T.says.fun_ 24 rfl
theorem f_Lcolumn (T : Tx K mg) : ∃ fd, FunD K d_Lcolumn.2.name d_Lcolumn.2.qual d_Lcolumn.2.params d_Lcolumn.2.body d_Lcolumn.2.scope (d_Lcolumn.2.dvs K) (d_Lcolumn.2.kws K) (d_Lcolumn.1 K) fd := T.says.fun_ 25 rfl
theorem f_Lvalue (T : Tx K mg) : ∃ fd, FunD K d_Lvalue.2.name d_Lvalue.2.qual d_Lvalue.2.params d_Lvalue.2.body d_Lvalue.2.scope (d_Lvalue.2.dvs K) (d_Lvalue.2.kws K) (d_Lvalue.1 K) fd := T.says.fun_ 26 rfl
theorem f_Lterm (T : Tx K mg) : ∃ fd, FunD K d_Lterm.2.name d_Lterm.2.qual d_Lterm.2.params d_Lterm.2.body d_Lterm.2.scope (d_Lterm.2.dvs K) (d_Lterm.2.kws K) (d_Lterm.1 K) fd := T.says.fun_ 27 rfl
theorem f_Lapplied (T : Tx K mg) : ∃ fd, FunD K d_Lapplied.2.name d_Lapplied.2.qual d_Lapplied.2.params d_Lapplied.2.body d_Lapplied.2.scope (d_Lapplied.2.dvs K) (d_Lapplied.2.kws K) (d_Lapplied.1 K) fd := T.says.fun_ 28 rfl
theorem f_Lbuilt (T : Tx K mg) : ∃ fd, FunD K d_Lbuilt.2.name d_Lbuilt.2.qual d_Lbuilt.2.params d_Lbuilt.2.body d_Lbuilt.2.scope (d_Lbuilt.2.dvs K) (d_Lbuilt.2.kws K) (d_Lbuilt.1 K) fd := T.says.fun_ 29 rfl
theorem f_Lis (T : Tx K mg) : ∃ fd, FunD K d_Lis.2.name d_Lis.2.qual d_Lis.2.params d_Lis.2.body d_Lis.2.scope (d_Lis.2.dvs K) (d_Lis.2.kws K) (d_Lis.1 K) fd := T.says.fun_ 30 rfl
theorem f_Lnested (T : Tx K mg) : ∃ fd, FunD K d_Lnested.2.name d_Lnested.2.qual d_Lnested.2.params d_Lnested.2.body d_Lnested.2.scope (d_Lnested.2.dvs K) (d_Lnested.2.kws K) (d_Lnested.1 K) fd := T.says.fun_ 31 rfl
theorem f_law (T : Tx K mg) : ∃ fd, FunD K d_law.2.name d_law.2.qual d_law.2.params d_law.2.body d_law.2.scope (d_law.2.dvs K) (d_law.2.kws K) (d_law.1 K) fd := T.says.fun_ 32 rfl
end
end Pf
namespace Bs
open PySem PySem.Spec PyProof.Rows L2
variable {X : Cx}
/-! ### rules of our own -/
/-- f() by its name -/
theorem pe_c0 {k j : Nat} {x : Str} {sp : Sp} {dvs : List V} {p pos : Pos} (c : C8.Cal X.prog X.w X.K X.mg X.base k x sp dvs) (hr : Room j X.A) (hk : k ≤ j) (hg : Gl X x) (hdb : (x == ("__debug__" : Str)) = false := by decide) :
    PE X (.Call (.Name x p) [] [] pos) (fun _ H Q => sp dvs H Q C8.E0) := by
  obtain ⟨f, fd, ps, ds, F, hm, kp, b, d⟩ := c.ex
  exact pe_call0 F (hr.mono hk) hg hm kp b d C8.pass0 hdb
/-- a short text, some times -/
def rRepS : R2 := fun x y H Q => ∃ z k, x = .str z ∧ y = .int k ∧ 0 ≤ k ∧ k ≤ 1000 ∧ z.length ≤ 1000 ∧ Q (.str ⟨(List.replicate k.toNat z.cps.toList).flatten.toArray⟩) H
theorem rep_flat (n : Nat) (c : Array Nat) : (List.replicate n c).foldl (fun x y => x ++ y) #[] = (List.replicate n c.toList).flatten.toArray := by
  have h : ∀ (n : Nat) (a : Array Nat), (List.replicate n c).foldl (fun x y => x ++ y) a = a ++ (List.replicate n c.toList).flatten.toArray := by
    intro n
    induction n with
    | zero => intro a; simp
    | succ n ih =>
      intro a
      rw [List.replicate_succ, List.foldl_cons, ih, List.replicate_succ, List.flatten_cons, Array.append_assoc]
      refine congrArg (a ++ ·) ?_
      apply Array.ext'
      simp
  rw [h]
  simp
theorem op_rep_str : OpR X (binaryOp .Mult) rRepS := by
  intro pins s σ H x y v u Q I rx ry h
  obtain ⟨z, k, rfl, rfl, h0, h1, hz, q⟩ := h
  obtain ⟨t, rfl⟩ := rx
  obtain ⟨t', rfl⟩ := ry
  have fin : ∀ (c : Str), c = ⟨(List.replicate k.toNat z.cps.toList).flatten.toArray⟩ → ∀ (t : Tok) (tk : Nat), EP X pins σ Q (.str c t) { s with toks := tk } := fun c e t tk => ⟨.str c, H, I.tok _, ⟨_, rfl⟩, by rw [e]; exact q⟩
  refine P.mul_str (by simp; omega) (fun h2 _ => ?_) (fun h2 _ => ?_) ?_
  · have h3 : 0 < k := by omega
    have h4 : (9223372036854775807 : Int) / 1000 ≤ 9223372036854775807 / k := by
      apply Int.le_ediv_of_mul_le h3
      omega
    have : (2 : Int) ^ 63 - 1 = 9223372036854775807 := by decide
    rw [this]
    omega
  · have h3 : z.length * k.toNat ≤ 1000 * 1000 := Nat.mul_le_mul hz (by omega)
    show decide (_ > sizeLine) = false
    exact decide_eq_false (by have : sizeLine = 16777216 := rfl; omega)
  · split
    · rename_i h2
      have e : k = 0 := by omega
      subst e
      refine ⟨by decide, fin _ ?_ _ _⟩
      simp [Str.empty]
    · split
      · rename_i h2 h3
        refine fin z ?_ t s.toks
        simp only [Bool.or_eq_true, beq_iff_eq] at h3
        rcases h3 with h3 | h3
        · subst h3
          apply TL.ext_tl
          simp [TL.tl]
        · have e : z.cps = #[] := Array.size_eq_zero_iff.mp h3
          apply TL.ext_tl
          simp [TL.tl, e]
      · rw [rep_flat]
        refine ⟨?_, fin _ rfl _ _⟩
        have h3 : k.toNat * z.length ≤ 1000 * 1000 := Nat.mul_le_mul (by omega) hz
        have h4 : ((List.replicate k.toNat z.cps.toList).flatten.toArray).size = k.toNat * z.length := by simp [Str.length]
        show _ ≤ sizeLine
        have : sizeLine = 16777216 := rfl
        show ((List.replicate k.toNat z.cps.toList).flatten.toArray).size ≤ sizeLine
        omega
end Bs
namespace Bs
open PySem PySem.Spec PyProof.Rows L2
variable {X : Cx} {n k : Nat} {C f : Addr} {fd : FuncData} {ps : List Str}
/-! ### == and != by the class's own __eq__, both answers -/
/-- what the own == promises: D a y r says that the answer is r; the heap stays -/
def spCmp (D : Addr → V → Bool → Hp → Prop) : Sp := fun vs H Q _ => ∃ (a : Addr) (y : V) (r : Bool), vs = [.ref a, y] ∧ D a y r H ∧ Q (.bl r) H
structure OwnE (X : Cx) (n : Nat) (C : Addr) (D : Addr → V → Bool → Hp → Prop) : Prop where
  ex : ∃ (f : Addr) (fd : FuncData) (ps : List Str), FnOk X.prog X.w X.K X.mg X.base C8.CX0 n f fd ps (spCmp D) ∧ PySem.W.findIn X.K (.ref C) "__eq__" = some (some (.ref f)) ∧ PySem.W.isFn X.K (.ref f) = true ∧ Binds X.K fd ps []
  obj : PySem.W.mroIn X.K C (.type "object") = some true
  ne : PySem.W.findIn X.K (.ref C) "__ne__" = some (some (.builtin "object.__ne__"))
theorem own_call {A : Around} {pins : List (Addr × Obj)} {s : Shared} {σ : L2.St} {H : Hp} {a : Addr} {y : V} {v : Value} {r : Bool} {D : Addr → V → Bool → Hp → Prop} {E : Value → Shared → Prop} (F : FnOk X.prog X.w X.K X.mg X.base C8.CX0 n f fd ps (spCmp D)) (hb : Binds X.K fd ps [])
    (hr : Room n A) (hf : A.frames = X.A.frames) (I : Inv X pins σ H s) (ry : RelV y v) (d : D a y r H) : wpAny (model X.prog X.w) A (call (.ref f) [.ref a, v]) (fun u s' => u = .bool r ∧ Inv X pins σ H s') E s := by
  have hsp : spCmp D [.ref a, y] H (fun v H' => v = .bl r ∧ H' = H) C8.E0 := ⟨a, y, r, rfl, d, rfl, rfl⟩
  have e0 : Env0 X.prog X.w X.K X.mg X.base A X.stack s H := by
    have e := I.env0
    exact ⟨by rw [hf]; exact e.frames, e.mod, e.bs, e.bsz, e.funs, e.frf, e.hok, e.bare⟩
  have hl := F.len _ _ _ _ hsp
  have r2 : Vals [V.ref a, y] [Value.ref a, v] := .cons rfl (.cons ry .nil)
  refine wpAny_call (codeAny_mono (F.run A X.stack s H ⟨[.ref a, v], []⟩ [.ref a, v] [.ref a, y] _ C8.E0 hr e0 (by
    have := hb s [.ref a, v] I.kIn (by simpa using hl)
    simpa using this) r2 hsp) fun r s' hq => ?_)
  cases r with
  | error e => exact hq.elim
  | ok fl =>
    cases fl with
    | ret w =>
      obtain ⟨z, H', I', rz, ez, ex⟩ := I.after hq
      subst ez ex
      cases rz
      exact ⟨rfl, I'⟩
    | next => exact False.elim hq
    | brk => exact False.elim hq
    | cont => exact False.elim hq
def rEqO (K : PySem.W.Frag) (C : Addr) (D : Addr → V → Bool → Hp → Prop) (g : Bool → Bool) : R2 := fun x y H Q => ∃ (a dx : Addr) (fs : List (Str × V)) (t : Value) (r : Bool), x = .ref a ∧ H a = some (.ins C dx fs) ∧ TyX K H y t ∧ PySem.W.notFirst K C t = true ∧ D a y r H ∧ Q (.bl (g r)) H
theorem op_eqO {D : Addr → V → Bool → Hp → Prop} (O : OwnE X n C D) (hr : Room n X.A) : OpR X (compareOp .Eq) (rEqO X.K C D id) := by
  intro pins s σ H x y v u Q I rx ry h
  obtain ⟨a, dx, fs, t, r, rfl, ha, ty, nf, d, q⟩ := h
  obtain ⟨f, fd, ps, F, hs, hf, hb⟩ := O.ex
  cases rx
  obtain ⟨mA, J, _⟩ := ins_get I.hok ha
  obtain ⟨od, J, _⟩ := J.look
  obtain ⟨m, hF⟩ := I.fr
  obtain ⟨P, kx, hP, _⟩ := kit_of I ry ty
  refine PySem.W.cmp_ofEq (PySem.W.cmp_K (op := .Eq) (tb := t) hr.units0 hF I.ok.mod.kin J (kx.ty _ _ I.kIn hP) nf hs hf ?_)
  refine wpAny_mono (own_call F hb hr rfl I ry d) (fun u s' ⟨eu, I'⟩ => ?_) fun _ _ x => x
  subst eu
  exact ⟨.bl r, H, I', rfl, q⟩
theorem op_neO {D : Addr → V → Bool → Hp → Prop} (O : OwnE X n C D) (hr : Room (n + 1) X.A) : OpR X (compareOp .NotEq) (rEqO X.K C D not) := by
  intro pins s σ H x y v u Q I rx ry h
  obtain ⟨a, dx, fs, t, r, rfl, ha, ty, nf, d, q⟩ := h
  obtain ⟨f, fd, ps, F, hs, hf, hb⟩ := O.ex
  cases rx
  obtain ⟨mA, J, _⟩ := ins_get I.hok ha
  obtain ⟨od, J, _⟩ := J.look
  obtain ⟨P, kx, hP, _⟩ := kit_of I ry ty
  have K0 : X.K.In s.heap := I.kIn
  have tl : PySem.W.Looks (model X.prog X.w) s.heap (typeOf u) t := kx.ty _ _ K0 hP
  have ifb : ∀ (Q' : Option Value → Shared → Prop), (∀ s', Inv X pins σ H s' → Q' (some (.bool r)) s') → wpAny (model X.prog X.w) X.A.in1 (callSpecialIfBound? (.ref a) "__eq__" [u]) Q' X.xe s := fun Q' hq =>
    PySem.W.ifBound_K K0 J hs hf (wpAny_mono (own_call F hb hr.in1 rfl I ry d) (fun v s' ⟨e, I'⟩ => by subst e; exact hq s' I') fun _ _ x => x)
  have hu := hr.in1.units0
  have body : ∀ (Q' : Fin → Shared → Prop), (∀ s', Inv X pins σ H s' → Q' (.done (.ret (.bool (!r)))) s') → wpAny (model X.prog X.w) X.A.in1 (Builtin.«object.__ne__» ⟨[.ref a, u], []⟩) Q' X.xe s := fun Q' hq => by
    unfold Builtin.«object.__ne__»
    repeat (first | with_reducible refine wpAny_cRoomFor hu ?_ | with_reducible refine wpAny_bind (ifb _ fun s' I' => ?_) | wp_step)
    exact hq s' I'
  have ifn : ∀ (Q' : Option Value → Shared → Prop), (∀ s', Inv X pins σ H s' → Q' (some (.bool (!r))) s') → wpAny (model X.prog X.w) X.A (callSpecialIfBound? (.ref a) "__ne__" [u]) Q' X.xe s := fun Q' hq => by
    have cl : ∀ (Q2 : Value → Shared → Prop), (∀ s', Inv X pins σ H s' → Q2 (.bool (!r)) s') → wpAny (model X.prog X.w) X.A (call (.builtin "object.__ne__") [.ref a, u]) Q2 X.xe s := fun Q2 h2 =>
      wpAny_call (codeAny_call_builtin PySem.F.cmp_object.ne.plain PySem.F.cmpEntry_ne (PySem.W.check_slot PySem.F.cmpKind_ne PySem.F.cmpSplit_ne (J.type.andThen (PySem.W.looks_mroIn K0 O.obj)) (PySem.F.cmpArgs_ne _ _) (body _ fun s' I' => h2 s' I')))
    have fin : wpAny (model X.prog X.w) X.A (call (.builtin "object.__ne__") ([.ref a] ++ [u]) >>= fun v => pure (some v)) Q' X.xe s := wpAny_bind (cl _ fun s' I' => wpAny_pure (hq s' I'))
    simp only [callSpecialIfBound?, bindSpecialIfBound?]
    refine wpAny_holding (wpAny_bind (wpAny_bind (wpAny_bind (J.type.here ((PySem.W.looks_findIn K0 O.ne).here ?_)))))
    refine wpAny_bind (wpAny_askSetting (wpAny_ite ?_))
    split
    · exact wpAny_bind (wpAny_of_eq (PySem.F.cmp_object.ne.bind _) (wpAny_pure (by exact fin)))
    · exact wpAny_tryCatch (wpAny_bind (wpAny_of_eq (PySem.F.cmp_object.ne.bind _) (wpAny_pure (by exact fin))))
  have one : wpAny (model X.prog X.w) X.A (tryCompare (.ref a) "__ne__" u) (fun z s' => z = some (.bool (!r)) ∧ Inv X pins σ H s') X.xe s := by
    unfold tryCompare
    exact wpAny_bind (ifn _ fun s' I' => wpAny_pure ⟨rfl, I'⟩)
  refine PySem.W.cmp_ofNotEq ?_
  unfold richCompare
  simp only [oneThing_ref]
  refine wpAny_holding (wpAny_bind (wpAny_cRoomFor hr.units0 ?_))
  refine wpAny_bind (J.type.here (wpAny_bind (tl.here ?_)))
  split
  · rename_i z
    have e : PySem.W.subIn X.K t (.ref C) = some false := by
      rcases Bool.or_eq_true_iff.mp nf with e | e
      · rw [beq_iff_eq.mp e] at z; simp at z
      · exact beq_iff_eq.mp e
    refine wpAny_bind ((PySem.W.looks_subIn K0 e).here ?_)
    simp only [Bool.false_eq_true, if_false]
    refine wpAny_bind (wpAny_mono one (fun z s' hz => ?_) fun _ _ e => e)
    obtain ⟨rfl, I'⟩ := hz
    exact wpAny_pure ⟨.bl (!r), H, I', rfl, q⟩
  · refine wpAny_bind (wpAny_pure ?_)
    simp only [Bool.false_eq_true, if_false]
    refine wpAny_bind (wpAny_mono one (fun z s' hz => ?_) fun _ _ e => e)
    obtain ⟨rfl, I'⟩ := hz
    exact wpAny_pure ⟨.bl (!r), H, I', rfl, q⟩
end Bs
namespace Bs
open PySem PySem.Spec PyProof.Rows L2
variable {X : Cx} {n k : Nat} {C f : Addr} {fd : FuncData} {ps : List Str}
/-! ### max(ints, default=d) -/
def rMaxD (K : PySem.W.Frag) : List V → List V → Hp → VK → Prop := fun vs zs H Q => ∃ (a : Addr) (ns : List Int) (d : Int), vs = [.ref a] ∧ zs = [.int d] ∧ SqL K H a (ns.map V.int) ∧
  ∀ m : Int, (ns = [] → m = d) → (ns ≠ [] → m ∈ ns ∧ ∀ k ∈ ns, k ≤ m) → Q (.int m) H
def big (y : Int) (ys : List Int) : Int := ys.foldl (fun a z => if decide (a < z) = true then z else a) y
theorem big_ge : ∀ (ys : List Int) (y : Int), y ≤ big y ys ∧ (∀ k ∈ ys, k ≤ big y ys) ∧ (big y ys = y ∨ big y ys ∈ ys)
  | [], y => ⟨Int.le_refl y, (fun k h => by cases h), .inl rfl⟩
  | z :: r, y => by
    have e : big y (z :: r) = big (if decide (y < z) = true then z else y) r := rfl
    obtain ⟨h1, h2, h3⟩ := big_ge r (if decide (y < z) = true then z else y)
    rw [e]
    by_cases c : y < z
    · rw [if_pos (decide_eq_true c)] at h1 h2 h3 ⊢
      refine ⟨by omega, fun k hk => ?_, .inr ?_⟩
      · rcases List.mem_cons.mp hk with q | q
        · rw [q]; exact h1
        · exact h2 k q
      · rcases h3 with q | q
        · rw [q]; exact List.mem_cons_self
        · exact List.mem_cons_of_mem _ q
    · rw [if_neg (by simpa using c)] at h1 h2 h3 ⊢
      refine ⟨h1, fun k hk => ?_, ?_⟩
      · rcases List.mem_cons.mp hk with q | q
        · omega
        · exact h2 k q
      · rcases h3 with q | q
        · exact .inl q
        · exact .inr (List.mem_cons_of_mem _ q)
theorem cr_maxD (hc : X.calm = true) (hu : X.A.units + 1 < cLine) : CallRK X (.builtin "max") ["default"] (rMaxD X.K) := by
  intro pins s σ H xs zs us ws Q I r rz h
  obtain ⟨a, ns, d, rfl, rfl, hs, q⟩ := h
  obtain ⟨its, rv, hl, _⟩ := I.list hs
  obtain ⟨w', ew, rw'⟩ := vals1 rz
  subst ew
  obtain ⟨t, rfl⟩ := rw'
  rw [Vals.ref1 r]
  show wpAny _ _ (call (.builtin "max") [.ref a] [(Str.ofString "default", .int d t)]) _ _ _
  refine PySem.W.max_list_datum_default (α := Int) (xs := ns) (I.ok.hd hc) hl.isList (PySem.W.HoldAll.of_ints (by simpa using rv.ints)) (by show X.A.units + 1 + 0 < cLine; exact hu) (fun e h' tk hk => ?_) fun y ys i v h' tk e hi hv hk => ?_
  · exact ⟨.int d, H, I.kept hk, ⟨_, rfl⟩, q d (fun _ => rfl) fun z => absurd e z⟩
  · obtain ⟨t', rfl⟩ := PySem.W.int_of_holds hv
    have eb : PySem.W.maxOf y ys = big y ys := rfl
    rw [eb]
    obtain ⟨h1, h2, h3⟩ := big_ge ys y
    refine ⟨.int (big y ys), H, I.kept hk, ⟨_, rfl⟩, q _ (fun z => by rw [e] at z; cases z) fun _ => ?_⟩
    rw [e]
    refine ⟨?_, fun k hk => ?_⟩
    · rcases h3 with z | z
      · rw [z]; exact List.mem_cons_self
      · exact List.mem_cons_of_mem _ z
    · rcases List.mem_cons.mp hk with z | z
      · rw [z]; exact h1
      · exact h2 k z
/-! ### str(o) by the class's own __str__ -/
def spStr (D : Addr → Str → Hp → Prop) : Sp := fun vs H Q _ => ∃ (a : Addr) (x : Str), vs = [.ref a] ∧ D a x H ∧ Q (.str x) H
structure OwnS (X : Cx) (n : Nat) (C : Addr) (D : Addr → Str → Hp → Prop) : Prop where
  ex : ∃ (f : Addr) (fd : FuncData) (ps : List Str), FnOk X.prog X.w X.K X.mg X.base C8.CX0 n f fd ps (spStr D) ∧ PySem.W.findIn X.K (.ref C) "__str__" = some (some (.ref f)) ∧ PySem.W.isFn X.K (.ref f) = true ∧ Binds X.K fd ps []
theorem call_strO {D : Addr → Str → Hp → Prop} (O : OwnS X n C D) (hr : Room (n + 2) X.A) : CallR X (.type "str") (fun xs H Q => ∃ (a dx : Addr) (fs : List (Str × V)) (x : Str), xs = [.ref a] ∧ H a = some (.ins C dx fs) ∧ D a x H ∧ Q (.str x) H) := by
  intro pins s σ H xs us Q I r h
  obtain ⟨a, dx, fs, x, rfl, ha, d, q⟩ := h
  obtain ⟨f, fd, ps, F, hs, hf, hb⟩ := O.ex
  obtain ⟨u, rfl, ru⟩ := vals1 r
  cases ru
  obtain ⟨mA, J, _⟩ := ins_get I.hok ha
  obtain ⟨od, J, _⟩ := J.look
  have hsp : spStr D [.ref a] H (fun v H' => v = .str x ∧ H' = H) C8.E0 := ⟨a, x, rfl, d, rfl, rfl⟩
  have e0 : Env0 X.prog X.w X.K X.mg X.base X.A.in1.in1 X.stack s H := by
    have e := I.env0
    exact ⟨e.frames, e.mod, e.bs, e.bsz, e.funs, e.frf, e.hok, e.bare⟩
  have hl := F.len _ _ _ _ hsp
  have r2 : Vals [V.ref a] [Value.ref a] := .cons rfl .nil
  have hr2 : Room n X.A.in1.in1 := hr.in1.in1
  refine PySem.W.kso_call hr2.units0 I.kIn J hs hf (wpAny_call (codeAny_mono (F.run X.A.in1.in1 X.stack s H ⟨[.ref a], []⟩ [.ref a] [.ref a] _ C8.E0 hr2 e0 (by
    have := hb s [.ref a] I.kIn (by simpa using hl)
    simpa using this) r2 hsp) fun r s' hq => ?_))
  cases r with
  | error e => exact hq.elim
  | ok fl =>
    cases fl with
    | ret w =>
      obtain ⟨z, H', I', rz, ez, ex⟩ := I.after hq
      subst ez ex
      obtain ⟨t, rfl⟩ := rz
      exact ⟨.str x, _, I', ⟨t, rfl⟩, q⟩
    | next => exact False.elim hq
    | brk => exact False.elim hq
    | cont => exact False.elim hq
end Bs
namespace Bs
open PySem PySem.Spec PyProof.Rows L2
variable {X : Cx} {K : PySem.W.Frag}
/-! ### rules whose reading names the written part itself -/
theorem pe_fldK {e : Expr} {f : Str} {pos : Pos} {ta : TE} (hK : X.K = K) (he : PE X e ta) (hb : attributeBase e f X.env (eval e X.env) = eval e X.env) : PE X (.Attribute e f pos) (tFld K ta f) := by
  subst hK
  exact pe_fld he hb
theorem ix_listK (hK : X.K = K) : IxR X (rIxL K) := by subst hK; exact ix_list
theorem ix_tupK (hK : X.K = K) : IxR X (rIxT K) := by subst hK; exact ix_tup
def rLenSeq (K : PySem.W.Frag) : List V → Hp → VK → Prop := fun xs H Q => ∃ (p : Addr) (ys : List V), xs = [.ref p] ∧ (SqL K H p ys ∨ SqT K H p ys) ∧ Q (.int (ys.length : Nat)) H
theorem call_len_seqK (hK : X.K = K) : CallR X (.builtin "len") (rLenSeq K) := by subst hK; exact call_len_seq
theorem call_isiK' (hK : X.K = K) : CallR X (.builtin "isinstance") (rIsi K) := by subst hK; exact call_isi
theorem pi_listK {tg l : Expr} {tl : TE} (hK : X.K = K) (hl : PE X l tl) : PI X tg l (iList K tl) := by subst hK; exact pi_list hl
theorem pi_tupK {tg l : Expr} {tl : TE} (hK : X.K = K) (hl : PE X l tl) : PI X tg l (iTup K tl) := by subst hK; exact pi_tup hl
theorem op_in_seqK (hK : X.K = K) : OpR X (compareOp .In) (rIn K false) := by subst hK; exact op_in_seq
/-! ### calls with keywords alone -/
structure CalK (P : Program) (w : World) (K : PySem.W.Frag) (mg : Str → Option Value) (base : Heap) (k : Nat) (x : Str) (sp : Sp) (ks : List Str) (gV : List V → List V) : Prop where
  ex : ∃ (f : Addr) (fd : FuncData) (ps : List Str) (g : List Value → List Value → List Value), FnOk P w K mg base C8.CX0 k f fd ps sp ∧ mg x = some (.ref f) ∧ PySem.W.keepIn K (.ref f) = true ∧ KBn K fd ps 0 ks g (fun _ zs => gV zs)
structure MakK (P : Program) (w : World) (K : PySem.W.Frag) (mg : Str → Option Value) (base : Heap) (k : Nat) (x : Str) (C : Addr) (sp : Sp) (ks : List Str) : Prop where
  ex : ∃ (f : Addr) (fd : FuncData) (ps : List Str) (g : List Value → List Value → List Value), Mk K C f ∧ FnOk P w K mg base C8.CX0 k f fd ps sp ∧ mg x = some (.ref C) ∧ KBn K fd ps 1 ks g (fun vs zs => vs ++ zs)
section
variable {k j : Nat} {x : Str} {sp : Sp} {ks : List Str} {gV : List V → List V} {p pos : Pos} {kws : List Keyword} {tk : TA} {C : Addr}
theorem pe_k (c : CalK X.prog X.w X.K X.mg X.base k x sp ks gV) (hr : Room j X.A) (hk : k ≤ j) (hg : Gl X x) (hkw : PK X kws tk)
    (hall : (backToKw pos (keywordEach kws X.env)).all (·.1.isSome) = true := by rfl) (hks : (backToKw pos (keywordEach kws X.env)).filterMap (·.1) = ks := by rfl) (hdb : (x == ("__debug__" : Str)) = false := by decide)
    (hpl : ((backTo pos (starEach [] X.env)).any (·.1) || (backToKw pos (keywordEach kws X.env)).any (·.1.isNone)) = false := by rfl) :
    PE X (.Call (.Name x p) [] kws pos) (fun σ H Q => tk σ H fun zs H1 => zs.length = ks.length ∧ sp (gV zs) H1 Q C8.E0) := by
  obtain ⟨f, fd, ps, g, F, hm, kp, hb⟩ := c.ex
  refine ⟨fun pins s σ H Q I h => ?_⟩
  refine wpAny_Call_Name_kw (ld_glob I hg hm ?_ hdb)
  refine PySem.W.callWith_KW0 (h₀ := X.base) I.ok.mod.kin kp hall ?_ hpl
  refine thn (hkw.run pos pins s σ H _ I h) fun ws s2 ⟨zs, H2, I2, rz, l2, q2⟩ => ⟨I2.kIn, ?_⟩
  rw [hks]
  exact run_fnN (us := []) (vs := []) F (hr.mono hk) hb C8.pass0 I2 .nil rz rfl l2 q2
theorem pe_mkk (c : MakK X.prog X.w X.K X.mg X.base k x C sp ks) (hr : Room j X.A) (hk : k + 1 ≤ j) (hg : Gl X x) (hkw : PK X kws tk)
    (hall : (backToKw pos (keywordEach kws X.env)).all (·.1.isSome) = true := by rfl) (hks : (backToKw pos (keywordEach kws X.env)).filterMap (·.1) = ks := by rfl) (hdb : (x == ("__debug__" : Str)) = false := by decide)
    (hpl : ((backTo pos (starEach [] X.env)).any (·.1) || (backToKw pos (keywordEach kws X.env)).any (·.1.isNone)) = false := by rfl) :
    PE X (.Call (.Name x p) [] kws pos) (tMakeK C 0 ks.length sp (fun vs zs => vs ++ zs) C8.E0 tNil tk) := by
  obtain ⟨f, fd, ps, g, M, F, hm, hb⟩ := c.ex
  exact pe_makeK0 M F (hr.mono hk) hg hm hb C8.pass0 hkw hall hks hdb hpl
end
end Bs
namespace Bs
open PySem PySem.Spec PyProof.Rows L2
/-! ### zip(list, tuple), zip(list, list, list) -/
section mk
variable {prog : Program} {w : World} {A : Around} {E : Value → Shared → Prop} {s : Shared}
abbrev itO (T : String) (l : Addr) : Obj := { cls := .type T, data := .fields #[.ref l, .int 0 0] }
abbrev tuO (vs : Array Value) : Obj := { cls := .type "tuple", data := .seq vs }
abbrev ziO (a b : Addr) : Obj := { cls := .type "zip", data := .fields #[.none, .bool false, .bool false, .ref a, .ref b] }
abbrev zm2 (h : Heap) (l t : Addr) : Heap := (h.push (itO "list_iterator" l)).push (itO "tuple_iterator" t)
abbrev zm3 (h : Heap) (l t : Addr) : Heap := (zm2 h l t).push (tuO #[.ref h.objs.size, .ref (h.push (itO "list_iterator" l)).objs.size])
abbrev zm4 (h : Heap) (l t : Addr) : Heap := (zm3 h l t).push (tuO #[.none, .none])
abbrev zm5 (h : Heap) (l t : Addr) : Heap := (zm4 h l t).push (ziO (zm2 h l t).objs.size (zm3 h l t).objs.size)
theorem meets_zm (l t : Addr) (xs ys : Array Value) : Meets (Builtin.«zip.__new__» ⟨[.type "zip", .ref l, .ref t], []⟩) (fun _ R s => s.heap.IsList l xs ∧ s.heap.IsTuple t ys ∧ R (.ok (.ret (.ref (zm4 s.heap l t).objs.size))) { s with heap := zm5 s.heap l t }) :=
  .of_wp fun prog w A R s ⟨hl, ht, h⟩ => by
    obtain ⟨hp, g, d, tk, os⟩ := s
    have hsub := sub_zip
    have a1 : Heap.IsList (Shared.heap ⟨hp, g, d, tk, os⟩) l xs := hl
    have a2 : Heap.IsTuple (Shared.heap ⟨hp.push (itO "list_iterator" l), g, d, tk, os⟩) t ys := Heap.IsTuple.push ht _
    wp_walk using wpAny_pyIter_list a1, wpAny_pyIter_tuple a2
    exact ⟨_, rfl, h⟩
theorem call_zm {l t : Addr} {xs ys : Array Value} {Q : Value → Shared → Prop} (hl : s.heap.IsList l xs) (ht : s.heap.IsTuple t ys)
    (h : ∀ h' : Heap, IsZip h' (s.heap.objs.size + 4) (s.heap.objs.size + 2) (s.heap.objs.size + 3) .none → IsTupOf2 h' (s.heap.objs.size + 2) (.ref s.heap.objs.size) (.ref (s.heap.objs.size + 1)) → IsTupOf2 h' (s.heap.objs.size + 3) .none .none →
      h'.IsListIter s.heap.objs.size l 0 → h'.IsTupleIter (s.heap.objs.size + 1) t 0 → (∀ c o, s.heap.get? c = some o → h'.get? c = some o) → Q (.ref (s.heap.objs.size + 4)) { s with heap := h' }) : wpAny (model prog w) A (call (.type "zip") [.ref l, .ref t]) Q E s := by
  refine callType_new F.called_zip (by decide) (F.typeCall_zip_2 _ _) (F.newCall_zip_2 _ _) (fun obj => F.args_object_init_3 obj _ _) F.entry_zip_new (meets_zm l t xs ys) ⟨hl, ht, ?_⟩
  have e1 : (s.heap.push (itO "list_iterator" l)).objs.size = s.heap.objs.size + 1 := Heap.size_push ..
  have e2 : (zm2 s.heap l t).objs.size = s.heap.objs.size + 2 := by rw [Heap.size_push, e1]
  have e3 : (zm3 s.heap l t).objs.size = s.heap.objs.size + 3 := by rw [Heap.size_push, e2]
  have e4 : (zm4 s.heap l t).objs.size = s.heap.objs.size + 4 := by rw [Heap.size_push, e3]
  have g5 : (zm5 s.heap l t).get? (zm4 s.heap l t).objs.size = some _ := Heap.get?_push_size _ rfl
  have g4 : (zm5 s.heap l t).get? (zm3 s.heap l t).objs.size = some _ := Heap.get?_push_of_some _ (Heap.get?_push_size _ rfl)
  have g3 : (zm5 s.heap l t).get? (zm2 s.heap l t).objs.size = some _ := Heap.get?_push_of_some _ (Heap.get?_push_of_some _ (Heap.get?_push_size _ rfl))
  have g2 : (zm5 s.heap l t).get? (s.heap.push (itO "list_iterator" l)).objs.size = some _ := Heap.get?_push_of_some _ (Heap.get?_push_of_some _ (Heap.get?_push_of_some _ (Heap.get?_push_size _ rfl)))
  have g1 : (zm5 s.heap l t).get? s.heap.objs.size = some _ := Heap.get?_push_of_some _ (Heap.get?_push_of_some _ (Heap.get?_push_of_some _ (Heap.get?_push_of_some _ (Heap.get?_push_size _ rfl))))
  rw [e4] at g5
  rw [e3] at g4
  rw [e2] at g3
  rw [e1] at g2
  show _ ∧ _
  rw [e4]
  refine ⟨⟨_, g5, rfl⟩, h _ ?_ ?_ g4 ⟨_, g1, rfl, rfl⟩ ⟨_, g2, rfl, rfl⟩ fun c o x => Heap.get?_push_of_some _ (Heap.get?_push_of_some _ (Heap.get?_push_of_some _ (Heap.get?_push_of_some _ (Heap.get?_push_of_some _ x))))⟩
  · rw [e2, e3] at g5; exact g5
  · rw [e1] at g3; exact g3
theorem typeCall_z3 (a b c : Value) : checkTypeCall "zip" ⟨[a, b, c], []⟩ = pure () := by kernel_rfl
theorem newCall_z3 (a b c : Value) : checkBuiltinCall "zip.__new__" ⟨[.type "zip", a, b, c], []⟩ = pure () := by kernel_rfl
theorem argsInit4 (a b c d : Value) : argsOk "object.__init__" ⟨[a, b, c, d], []⟩ := by
  unfold argsOk
  rw [signature?_of (id := "object.__init__") (n := ['_', '_', 't', 'i', 'n', 'i', '_', '_']) (o := ['t', 'c', 'e', 'j', 'b', 'o']) (by kernel_rfl) F.owner_object]
  kernel_rfl
abbrev zt1 (h : Heap) (a : Addr) : Heap := h.push (itO "list_iterator" a)
abbrev zt2 (h : Heap) (a b : Addr) : Heap := (zt1 h a).push (itO "list_iterator" b)
abbrev zt3 (h : Heap) (a b c : Addr) : Heap := (zt2 h a b).push (itO "list_iterator" c)
abbrev zt4 (h : Heap) (a b c : Addr) : Heap := (zt3 h a b c).push (tuO #[.ref h.objs.size, .ref (zt1 h a).objs.size, .ref (zt2 h a b).objs.size])
abbrev zt5 (h : Heap) (a b c : Addr) : Heap := (zt4 h a b c).push (tuO #[.none, .none, .none])
abbrev zt6 (h : Heap) (a b c : Addr) : Heap := (zt5 h a b c).push (ziO (zt3 h a b c).objs.size (zt4 h a b c).objs.size)
theorem meets_zt (a b c : Addr) (xs ys zs : Array Value) : Meets (Builtin.«zip.__new__» ⟨[.type "zip", .ref a, .ref b, .ref c], []⟩) (fun _ R s => s.heap.IsList a xs ∧ s.heap.IsList b ys ∧ s.heap.IsList c zs ∧ R (.ok (.ret (.ref (zt5 s.heap a b c).objs.size))) { s with heap := zt6 s.heap a b c }) :=
  .of_wp fun prog w A R s ⟨ha, hb, hc, h⟩ => by
    obtain ⟨hp, g, d, tk, os⟩ := s
    have hsub := sub_zip
    have a1 : Heap.IsList (Shared.heap ⟨hp, g, d, tk, os⟩) a xs := ha
    have a2 : Heap.IsList (Shared.heap ⟨zt1 hp a, g, d, tk, os⟩) b ys := Heap.IsList.push hb _
    have a3 : Heap.IsList (Shared.heap ⟨zt2 hp a b, g, d, tk, os⟩) c zs := Heap.IsList.push (Heap.IsList.push hc _) _
    wp_walk using wpAny_pyIter_list a1, wpAny_pyIter_list a2, wpAny_pyIter_list a3
    exact ⟨_, rfl, h⟩
theorem call_zt {a b c : Addr} {xs ys zs : Array Value} {Q : Value → Shared → Prop} (ha : s.heap.IsList a xs) (hb : s.heap.IsList b ys) (hc : s.heap.IsList c zs)
    (h : ∀ h' : Heap, IsZip h' (s.heap.objs.size + 5) (s.heap.objs.size + 3) (s.heap.objs.size + 4) .none → IsTupOf3 h' (s.heap.objs.size + 3) (.ref s.heap.objs.size) (.ref (s.heap.objs.size + 1)) (.ref (s.heap.objs.size + 2)) → IsTupOf3 h' (s.heap.objs.size + 4) .none .none .none →
      h'.IsListIter s.heap.objs.size a 0 → h'.IsListIter (s.heap.objs.size + 1) b 0 → h'.IsListIter (s.heap.objs.size + 2) c 0 → (∀ c o, s.heap.get? c = some o → h'.get? c = some o) → Q (.ref (s.heap.objs.size + 5)) { s with heap := h' }) : wpAny (model prog w) A (call (.type "zip") [.ref a, .ref b, .ref c]) Q E s := by
  refine callType_new F.called_zip (by decide) (typeCall_z3 _ _ _) (newCall_z3 _ _ _) (fun obj => argsInit4 obj _ _ _) F.entry_zip_new (meets_zt a b c xs ys zs) ⟨ha, hb, hc, ?_⟩
  have e1 : (zt1 s.heap a).objs.size = s.heap.objs.size + 1 := Heap.size_push ..
  have e2 : (zt2 s.heap a b).objs.size = s.heap.objs.size + 2 := by rw [Heap.size_push, e1]
  have e3 : (zt3 s.heap a b c).objs.size = s.heap.objs.size + 3 := by rw [Heap.size_push, e2]
  have e4 : (zt4 s.heap a b c).objs.size = s.heap.objs.size + 4 := by rw [Heap.size_push, e3]
  have e5 : (zt5 s.heap a b c).objs.size = s.heap.objs.size + 5 := by rw [Heap.size_push, e4]
  have g6 : (zt6 s.heap a b c).get? (zt5 s.heap a b c).objs.size = some _ := Heap.get?_push_size _ rfl
  have g5 : (zt6 s.heap a b c).get? (zt4 s.heap a b c).objs.size = some _ := Heap.get?_push_of_some _ (Heap.get?_push_size _ rfl)
  have g4 : (zt6 s.heap a b c).get? (zt3 s.heap a b c).objs.size = some _ := Heap.get?_push_of_some _ (Heap.get?_push_of_some _ (Heap.get?_push_size _ rfl))
  have g3 : (zt6 s.heap a b c).get? (zt2 s.heap a b).objs.size = some _ := Heap.get?_push_of_some _ (Heap.get?_push_of_some _ (Heap.get?_push_of_some _ (Heap.get?_push_size _ rfl)))
  have g2 : (zt6 s.heap a b c).get? (zt1 s.heap a).objs.size = some _ := Heap.get?_push_of_some _ (Heap.get?_push_of_some _ (Heap.get?_push_of_some _ (Heap.get?_push_of_some _ (Heap.get?_push_size _ rfl))))
  have g1 : (zt6 s.heap a b c).get? s.heap.objs.size = some _ := Heap.get?_push_of_some _ (Heap.get?_push_of_some _ (Heap.get?_push_of_some _ (Heap.get?_push_of_some _ (Heap.get?_push_of_some _ (Heap.get?_push_size _ rfl)))))
  rw [e5] at g6
  rw [e4] at g5
  rw [e3] at g4
  rw [e2] at g3
  rw [e1] at g2
  show _ ∧ _
  rw [e5]
  refine ⟨⟨_, g6, rfl⟩, h _ ?_ ?_ g5 ⟨_, g1, rfl, rfl⟩ ⟨_, g2, rfl, rfl⟩ ⟨_, g3, rfl, rfl⟩ fun c o x => Heap.get?_push_of_some _ (Heap.get?_push_of_some _ (Heap.get?_push_of_some _ (Heap.get?_push_of_some _ (Heap.get?_push_of_some _ (Heap.get?_push_of_some _ x)))))⟩
  · rw [e3, e4] at g6; exact g6
  · rw [e1, e2] at g4; exact g4
end mk
end Bs
namespace Bs
open PySem PySem.Spec PyProof.Rows L2
def ItM (K : PySem.W.Frag) (a b : Addr) : It :=
  ⟨fun i H => ∃ (xs ys : List V) (x y : V), SqL K H a xs ∧ SqT K H b ys ∧ xs[i]? = some x ∧ ys[i]? = some y,
    fun i H v H' => ∃ (T : Addr) (x y : V), v = .ref T ∧ H T = none ∧ H' = upd H T (.tup [x, y]) ∧ (∀ xs, SqL K H a xs → xs[i]? = some x) ∧ ∀ ys, SqT K H b ys → ys[i]? = some y,
    fun i H => ∃ xs ys : List V, SqL K H a xs ∧ SqT K H b ys ∧ i ≤ xs.length ∧ i ≤ ys.length ∧ (i = xs.length ∨ i = ys.length)⟩
theorem turn_m {P : Program} {w : World} {K : PySem.W.Frag} {elts : List Expr} {kk : Nat} {tpos : Pos} {a b z TI TO i1 i2 : Addr} (D : ZipSep2 z TI TO i1 i2 [i1, a] [i2, b]) (na : a ≠ i1) (nb : b ≠ i2) :
    Turn P w K (.Tuple elts kk tpos) (ItM K a b) [z, TI, TO, i1, i2] z (fun i h => IsZip h z TI TO .none ∧ IsTupOf2 h TI (.ref i1) (.ref i2) ∧ (∃ x y, IsTupOf2 h TO x y) ∧ h.IsListIter i1 a i ∧ h.IsTupleIter i2 b i) where
  mem := List.mem_cons_self
  obj := fun i h st c hc => by
    obtain ⟨hz, hTI, ⟨x, y, hTO⟩, ⟨o1, e1, _, d1⟩, ⟨o2, e2, _, d2⟩⟩ := st
    simp only [List.mem_cons, List.mem_nil_iff, or_false] at hc
    rcases hc with q | q | q | q | q
    · subst q; exact ⟨_, hz, by intro v e; cases e⟩
    · subst q; exact ⟨_, hTI, by intro v e; cases e⟩
    · subst q; exact ⟨_, hTO, by intro v e; cases e⟩
    · exact ⟨o1, q ▸ e1, fun v q => by rw [d1] at q; cases q⟩
    · exact ⟨o2, q ▸ e2, fun v q => by rw [d2] at q; cases q⟩
  keep := fun i h h' ⟨hz, hTI, ⟨x, y, hTO⟩, h1, h2⟩ k => ⟨k z (by simp) _ hz, k TI (by simp) _ hTI, ⟨x, y, k TO (by simp) _ hTO⟩, h1.at fun o q => k i1 (by simp) o q, h2.at fun o q => k i2 (by simp) o q⟩
  item := by
    intro X hP hw hK hc i pins s σ H E I hf ⟨hz, hTI, ⟨x0, y0, hTO⟩, h1, h2⟩ ⟨xs, ys, x, y, hqx, hqy, hx, hy⟩
    subst hP hw hK
    obtain ⟨its, rv, p, _⟩ := I.list hqx
    obtain ⟨its2, rv2, p2, _⟩ := I.tuple hqy
    obtain ⟨u, hu, ru⟩ := rv.get hx
    obtain ⟨u2, hu2, ru2⟩ := rv2.get hy
    have hh := I.ok.hd hc
    have zl : z < s.heap.objs.size := Heap.lt_size hz
    have l1 := (List.getElem?_eq_some_iff.mp hu).1
    have l2 := (List.getElem?_eq_some_iff.mp hu2).1
    refine wpAny_pyNext_zipD2_item (i := i) D (Draws.list (A := X.A.in1) hh i1 a na its.toArray) (Draws.tuple (A := X.A.in1) hh i2 b nb its2.toArray) hz hTI hTO ⟨h1, p.isList⟩ ⟨h2, p2⟩ (by rw [List.size_toArray]; exact l1) (by rw [List.size_toArray]; exact l2) fun x1 x2 h' tk q1 q2 z' TO' s1' s2' hT _ hk => ?_
    have e1 : x1 = u := by rw [← Array.getElem?_toList] at q1; exact Option.some.inj (q1.symm.trans hu)
    have e2 : x2 = u2 := by rw [← Array.getElem?_toList] at q2; exact Option.some.inj (q2.symm.trans hu2)
    subst e1 e2
    refine ⟨_, rfl, wpAny_letOwnedTupleGo_zip (s := { s with heap := h', toks := tk }) z' fun h'' z'' sb => ?_⟩
    have hT2 : h''.get? s.heap.objs.size = some { cls := .type "tuple", data := .seq #[x1, x2] } := (sb.2 _ (Nat.ne_of_gt zl)).trans hT
    have new : ObjOk X.prog X.w (upd H s.heap.objs.size (.tup [x, y])) h'' s.heap.objs.size (.tup [x, y]) := ⟨by show 2 ≤ sizeLine; decide, [x1, x2], .cons ru (.cons ru2 .nil), ⟨_, hT2, rfl, _, rfl⟩⟩
    have I1 : Inv X pins σ (upd H s.heap.objs.size (.tup [x, y])) { s with heap := h'', toks := tk } :=
      I.turnedNew (t' := tk) (ch := [z, TI, TO, i1, i2]) (fun c o hb q => by
        simp only [List.mem_cons, List.mem_nil_iff, or_false, not_or] at hb
        exact (sb.2 c hb.1).trans (hk c o hb.1 hb.2.2.1 hb.2.2.2.1 hb.2.2.2.2 q)) hf (Nat.le_refl _) new
    refine ⟨.ref s.heap.objs.size, _, I1, rfl, ⟨_, x, y, rfl, I.hok.fresh (Nat.le_refl _), rfl, fun l hl => by rw [I.list_inj hl hqx]; exact hx, fun l hl => by rw [I.tuple_inj hl hqy]; exact hy⟩, ⟨z'', ?_, ⟨x1, x2, ?_⟩, ?_, ?_⟩, fun c hcm => ?_⟩
    · exact (sb.2 _ D.TIz).trans (hk _ _ D.TIz D.TITO D.TIi1 D.TIi2 hTI)
    · exact (sb.2 _ D.TOz).trans TO'
    · exact s1'.1.at fun o q => (sb.2 _ D.zi1.symm).trans q
    · exact s2'.1.at fun o q => (sb.2 _ D.zi2.symm).trans q
    · have hlt : c < s.heap.objs.size := by
        simp only [List.mem_cons, List.mem_nil_iff, or_false] at hcm
        rcases hcm with q | q | q | q | q
        · exact q ▸ zl
        · exact q ▸ Heap.lt_size hTI
        · exact q ▸ Heap.lt_size hTO
        · obtain ⟨_, e1, _⟩ := h1
          exact q ▸ Heap.lt_size e1
        · obtain ⟨_, e2, _⟩ := h2
          exact q ▸ Heap.lt_size e2
      rw [upd_ne (Nat.ne_of_lt hlt)]
      exact (hf c hcm).1
  done := by
    intro X hP hw hK hc i pins s σ H E I hf ⟨hz, hTI, ⟨x0, y0, hTO⟩, h1, h2⟩ ⟨xs, ys, hqx, hqy, m1, m2, hend⟩
    subst hP hw hK
    obtain ⟨its, rv, p, _⟩ := I.list hqx
    obtain ⟨its2, rv2, p2, _⟩ := I.tuple hqy
    have hh := I.ok.hd hc
    have l1 := rv.length
    have l2 := rv2.length
    exact wpAny_pyNext_zipD2_end (i := i) D (Draws.list (A := X.A.in1) hh i1 a na its.toArray) (Draws.tuple (A := X.A.in1) hh i2 b nb its2.toArray) hz hTI hTO ⟨h1, p.isList⟩ ⟨h2, p2⟩ (by rw [List.size_toArray]; omega) (by rw [List.size_toArray]; omega) (by rw [List.size_toArray, List.size_toArray]; omega)
      fun h' tk hk => ⟨rfl, I.turnedL (t' := tk) (ch := [z, TI, TO, i1, i2]) (fun c o hb q => by
        simp only [List.mem_cons, List.mem_nil_iff, or_false, not_or] at hb
        exact hk c o hb.1 hb.2.2.1 hb.2.2.2.1 hb.2.2.2.2 q) hf⟩
  self := fun A i s Q E st h => wpAny_pyIter_zip st.1 h
theorem pg_tupK {X : Cx} {K : PySem.W.Frag} {es : List Expr} {k n : Nat} {pos : Pos} {t : TGs} (hK : X.K = K) (hc : X.calm = true) (h : PGs X es t)
    (hn : (assignEach es X.env).length = n := by rfl) (hst : (assignEach es X.env).findIdx? (·.1) = none := by rfl) : PG X (.Tuple es k pos) (gTup K n t) := by
  subst hK
  exact pg_tup hc h hn hst
theorem nin2 {x a b : Nat} (h1 : x ≠ a) (h2 : x ≠ b) : x ∉ [a, b] := by
  simp only [List.mem_cons, List.mem_nil_iff, or_false, not_or]
  exact ⟨h1, h2⟩
theorem sep_m (I a b : Nat) (h1 : a < I) (h2 : b < I) : ZipSep2 (I + 4) (I + 2) (I + 3) I (I + 1) [I, a] [I + 1, b] where
  TIz := Nat.ne_of_lt (by omega)
  TOz := Nat.ne_of_lt (by omega)
  TITO := Nat.ne_of_lt (by omega)
  TIi1 := Nat.ne_of_gt (by omega)
  mem1 := List.mem_cons_self
  zf1 := nin2 (by omega) (by omega)
  Tf1 := nin2 (by omega) (by omega)
  TIi2 := Nat.ne_of_gt (by omega)
  mem2 := List.mem_cons_self
  zf2 := nin2 (by omega) (by omega)
  Tf2 := nin2 (by omega) (by omega)
  sep1_2 := nin2 (by omega) (by omega)
  sep2_1 := nin2 (by omega) (by omega)
theorem sep_t (I a b c : Nat) (h1 : a < I) (h2 : b < I) (h3 : c < I) : ZipSep3 (I + 5) (I + 3) (I + 4) I (I + 1) (I + 2) [I, a] [I + 1, b] [I + 2, c] := by
  constructor <;> first | exact List.mem_cons_self | exact nin2 (by omega) (by omega) | exact Nat.ne_of_lt (by omega) | exact Nat.ne_of_gt (by omega)
theorem ne_add (I b k : Nat) (h : b < I) : b ≠ I + k := by omega
theorem le_one {I c : Nat} (h : c = I + 4 ∨ c = I + 2 ∨ c = I + 3 ∨ c = I ∨ c = I + 1) : I ≤ c := by omega
theorem le_two {I c : Nat} (h : c = I + 5 ∨ c = I + 3 ∨ c = I + 4 ∨ c = I ∨ c = I + 1 ∨ c = I + 2) : I ≤ c := by omega
def iZipM (K : PySem.W.Frag) (ta : TA) : TI := fun σ H R => ta σ H fun vs H1 => ∃ (a b : Addr) (xs ys : List V), vs = [.ref a, .ref b] ∧ SqL K H1 a xs ∧ SqT K H1 b ys ∧ R (ItM K a b) H1
theorem pi_zipM {X : Cx} {K : PySem.W.Frag} {e e2 : Expr} {ta : TA} {p pos tpos : Pos} {elts : List Expr} {kk : Nat} (hK : X.K = K) (hg : Gl X "zip") (hm : X.mg "zip" = none) (ha : PA X [e, e2] ta)
    (hs : starEach [e, e2] X.env = (false, eval e X.env) :: starEach [e2] X.env := by rfl) (hpl : (backTo pos (starEach [e2] X.env)).any (·.1) = false := by rfl) :
    PI X (.Tuple elts kk tpos) (.Call (.Name "zip" p) [e, e2] [] pos) (iZipM K ta) := by
  subst hK
  refine ⟨fun pins s σ H R I h => ?_⟩
  refine Call_ (ld_blt I hg hm PyProof.Rows.boot_zip (PyProof.Rows.callWith_type1 (thn (ha.run pos pins s σ H _ I h) fun us s1 ⟨vs, H1, I1, r1, a, b, xs, ys, ex, hqx, hqy, q⟩ => ?_) hs hpl))
  subst ex
  obtain ⟨u1, u2, rfl, r, r'⟩ := vals2 r1
  cases r
  cases r'
  obtain ⟨its, rv, p1, _⟩ := I1.list hqx
  obtain ⟨its2, rv2, p2, _⟩ := I1.tuple hqy
  have la : a < s1.heap.objs.size := p1.lt
  have lb : b < s1.heap.objs.size := by obtain ⟨o, e, _⟩ := p2; exact Heap.lt_size e
  refine call_zm p1.isList p2 fun h' hz hTI hTO h1 h2 hk => wpAny_pyIter_zip hz ?_
  have I2 : Inv X pins σ H1 { s1 with heap := h' } := I1.kept (t' := s1.toks) hk
  have D := sep_m s1.heap.objs.size a b la lb
  refine ⟨s1.heap.objs.size + 4, [s1.heap.objs.size + 4, s1.heap.objs.size + 2, s1.heap.objs.size + 3, s1.heap.objs.size, s1.heap.objs.size + 1], _, _, H1, rfl, I2, turn_m D (Nat.ne_of_lt la) (ne_add _ _ 1 lb), ⟨hz, hTI, ⟨_, _, hTO⟩, h1, h2⟩, fun c hcm => ?_, q⟩
  have hle : s1.heap.objs.size ≤ c := by
    simp only [List.mem_cons, List.mem_nil_iff, or_false] at hcm
    exact le_one hcm
  exact I1.fpOk hle (I1.hok.fresh hle)
/-- a comprehension over such a zip, of one length -/
theorem lc_zipM {K : PySem.W.Frag} {a b : Addr} {xs ys : List V} {g : TG} {tt : TT} {te : TE} {vs : List Nat} {σ : L2.St} {H1 : Hp} {D : Addr} {Qd : Hp → Prop} (hl : xs.length = ys.length) (Pv : Nat → Hp → Prop) (h0 : Pv 0 (upd H1 D (.lst [])))
    (hq : ∀ i H, Pv i H → SqL K H a xs ∧ SqT K H b ys)
    (hs : ∀ i x y T H, xs[i]? = some x → ys[i]? = some y → Pv i H → H T = none → g (.ref T) (wipe σ vs) (upd H T (.tup [x, y])) fun σ2 H2 => wipe σ2 vs = wipe σ vs ∧ tt σ2 H2 fun b H3 =>
      if b = true then te σ2 H3 fun y H4 => ∃ acc, H4 D = some (.lst acc) ∧ acc.length < sizeLine ∧ Pv (i + 1) (upd H4 D (.lst (acc ++ [y]))) else Pv (i + 1) H3) (hd : ∀ H, Pv xs.length H → Qd H) :
    ∃ W : Nat → Nat → Hp → Prop, (∃ m, W 0 m (upd H1 D (.lst []))) ∧ ∀ i m H, W i m H →
      ((ItM K a b).stop i H ∧ Qd H) ∨ ((ItM K a b).go i H ∧ ∃ Nx : Hp → Prop, (∀ H', Nx H' → ∃ m', m' < m ∧ W (i + 1) m' H') ∧ ∀ x H', (ItM K a b).yld i H x H' → g x (wipe σ vs) H' fun σ2 H2 => wipe σ2 vs = wipe σ vs ∧ tt σ2 H2 fun b H3 =>
        if b = true then te σ2 H3 fun y H4 => ∃ acc, H4 D = some (.lst acc) ∧ acc.length < sizeLine ∧ Nx (upd H4 D (.lst (acc ++ [y]))) else Nx H3) := by
  refine ⟨fun i m H => Pv i H ∧ i + m = xs.length, ⟨xs.length, h0, Nat.zero_add _⟩, fun i m H ⟨hp, em⟩ => ?_⟩
  obtain ⟨qx, qy⟩ := hq i H hp
  cases m with
  | zero =>
    have e : i = xs.length := em
    subst e
    exact .inl ⟨⟨xs, ys, qx, qy, Nat.le_refl _, by omega, .inl rfl⟩, hd H hp⟩
  | succ m =>
    have li : i < xs.length := by omega
    have hx := List.getElem?_eq_getElem li
    have hy := List.getElem?_eq_getElem (l := ys) (i := i) (by omega)
    refine .inr ⟨⟨xs, ys, _, _, qx, qy, hx, hy⟩, Pv (i + 1), fun H' h' => ⟨m, Nat.lt_succ_self m, h', by omega⟩, ?_⟩
    rintro _ _ ⟨T, x, y, rfl, hT, rfl, ex, ey⟩
    exact hs i x y T H (ex xs qx) (ey ys qy) hp hT
/-- a comprehension over zip of two lists of one length -/
theorem lc_zipL {K : PySem.W.Frag} {a b : Addr} {xs ys : List V} {g : TG} {tt : TT} {te : TE} {vs : List Nat} {σ : L2.St} {H1 : Hp} {D : Addr} {Qd : Hp → Prop} (hl : xs.length = ys.length) (Pv : Nat → Hp → Prop) (h0 : Pv 0 (upd H1 D (.lst [])))
    (hq : ∀ i H, Pv i H → SqL K H a xs ∧ SqL K H b ys)
    (hs : ∀ i x y T H, xs[i]? = some x → ys[i]? = some y → Pv i H → H T = none → g (.ref T) (wipe σ vs) (upd H T (.tup [x, y])) fun σ2 H2 => wipe σ2 vs = wipe σ vs ∧ tt σ2 H2 fun b H3 =>
      if b = true then te σ2 H3 fun y H4 => ∃ acc, H4 D = some (.lst acc) ∧ acc.length < sizeLine ∧ Pv (i + 1) (upd H4 D (.lst (acc ++ [y]))) else Pv (i + 1) H3) (hd : ∀ H, Pv xs.length H → Qd H) :
    ∃ W : Nat → Nat → Hp → Prop, (∃ m, W 0 m (upd H1 D (.lst []))) ∧ ∀ i m H, W i m H →
      ((Itz K a b).stop i H ∧ Qd H) ∨ ((Itz K a b).go i H ∧ ∃ Nx : Hp → Prop, (∀ H', Nx H' → ∃ m', m' < m ∧ W (i + 1) m' H') ∧ ∀ x H', (Itz K a b).yld i H x H' → g x (wipe σ vs) H' fun σ2 H2 => wipe σ2 vs = wipe σ vs ∧ tt σ2 H2 fun b H3 =>
        if b = true then te σ2 H3 fun y H4 => ∃ acc, H4 D = some (.lst acc) ∧ acc.length < sizeLine ∧ Nx (upd H4 D (.lst (acc ++ [y]))) else Nx H3) := by
  refine ⟨fun i m H => Pv i H ∧ i + m = xs.length, ⟨xs.length, h0, Nat.zero_add _⟩, fun i m H ⟨hp, em⟩ => ?_⟩
  obtain ⟨qx, qy⟩ := hq i H hp
  cases m with
  | zero =>
    have e : i = xs.length := em
    subst e
    exact .inl ⟨⟨xs, ys, qx, qy, .inl (Nat.le_refl _)⟩, hd H hp⟩
  | succ m =>
    have li : i < xs.length := by omega
    have hx := List.getElem?_eq_getElem li
    have hy := List.getElem?_eq_getElem (l := ys) (i := i) (by omega)
    refine .inr ⟨⟨xs, ys, _, _, qx, qy, hx, hy⟩, Pv (i + 1), fun H' h' => ⟨m, Nat.lt_succ_self m, h', by omega⟩, ?_⟩
    rintro _ _ ⟨T, x, y, rfl, hT, rfl, ex, ey⟩
    exact hs i x y T H (ex xs qx) (ey ys qy) hp hT
/-! three lists -/
def It3 (K : PySem.W.Frag) (a b c : Addr) : It :=
  ⟨fun i H => ∃ (xs ys zs : List V) (x y z : V), SqL K H a xs ∧ SqL K H b ys ∧ SqL K H c zs ∧ xs[i]? = some x ∧ ys[i]? = some y ∧ zs[i]? = some z,
    fun i H v H' => ∃ (T : Addr) (x y z : V), v = .ref T ∧ H T = none ∧ H' = upd H T (.tup [x, y, z]) ∧ (∀ xs, SqL K H a xs → xs[i]? = some x) ∧ (∀ ys, SqL K H b ys → ys[i]? = some y) ∧ ∀ zs, SqL K H c zs → zs[i]? = some z,
    fun i H => ∃ xs ys zs : List V, SqL K H a xs ∧ SqL K H b ys ∧ SqL K H c zs ∧ i ≤ xs.length ∧ i ≤ ys.length ∧ i ≤ zs.length ∧ (i = xs.length ∨ i = ys.length ∨ i = zs.length)⟩
theorem turn_3 {P : Program} {w : World} {K : PySem.W.Frag} {elts : List Expr} {kk : Nat} {tpos : Pos} {a b c z TI TO i1 i2 i3 : Addr} (D : ZipSep3 z TI TO i1 i2 i3 [i1, a] [i2, b] [i3, c]) (na : a ≠ i1) (nb : b ≠ i2) (nc : c ≠ i3) :
    Turn P w K (.Tuple elts kk tpos) (It3 K a b c) [z, TI, TO, i1, i2, i3] z (fun i h => IsZip h z TI TO .none ∧ IsTupOf3 h TI (.ref i1) (.ref i2) (.ref i3) ∧ (∃ x y u, IsTupOf3 h TO x y u) ∧ h.IsListIter i1 a i ∧ h.IsListIter i2 b i ∧ h.IsListIter i3 c i) where
  mem := List.mem_cons_self
  obj := fun i h st q hc => by
    obtain ⟨hz, hTI, ⟨x, y, u, hTO⟩, ⟨o1, e1, _, d1⟩, ⟨o2, e2, _, d2⟩, ⟨o3, e3, _, d3⟩⟩ := st
    simp only [List.mem_cons, List.mem_nil_iff, or_false] at hc
    rcases hc with q | q | q | q | q | q
    · subst q; exact ⟨_, hz, by intro v e; cases e⟩
    · subst q; exact ⟨_, hTI, by intro v e; cases e⟩
    · subst q; exact ⟨_, hTO, by intro v e; cases e⟩
    · exact ⟨o1, q ▸ e1, fun v q => by rw [d1] at q; cases q⟩
    · exact ⟨o2, q ▸ e2, fun v q => by rw [d2] at q; cases q⟩
    · exact ⟨o3, q ▸ e3, fun v q => by rw [d3] at q; cases q⟩
  keep := fun i h h' ⟨hz, hTI, ⟨x, y, u, hTO⟩, h1, h2, h3⟩ k => ⟨k z (by simp) _ hz, k TI (by simp) _ hTI, ⟨x, y, u, k TO (by simp) _ hTO⟩, h1.at fun o q => k i1 (by simp) o q, h2.at fun o q => k i2 (by simp) o q, h3.at fun o q => k i3 (by simp) o q⟩
  item := by
    intro X hP hw hK hc i pins s σ H E I hf ⟨hz, hTI, ⟨x0, y0, u0, hTO⟩, h1, h2, h3⟩ ⟨xs, ys, zs, x, y, zz, hqx, hqy, hqz, hx, hy, hzz⟩
    subst hP hw hK
    obtain ⟨its, rv, p, _⟩ := I.list hqx
    obtain ⟨its2, rv2, p2, _⟩ := I.list hqy
    obtain ⟨its3, rv3, p3, _⟩ := I.list hqz
    obtain ⟨u, hu, ru⟩ := rv.get hx
    obtain ⟨u2, hu2, ru2⟩ := rv2.get hy
    obtain ⟨u3, hu3, ru3⟩ := rv3.get hzz
    have hh := I.ok.hd hc
    have zl : z < s.heap.objs.size := Heap.lt_size hz
    have l1 := (List.getElem?_eq_some_iff.mp hu).1
    have l2 := (List.getElem?_eq_some_iff.mp hu2).1
    have l3 := (List.getElem?_eq_some_iff.mp hu3).1
    refine wpAny_pyNext_zipD3_item (i := i) D (Draws.list (A := X.A.in1) hh i1 a na its.toArray) (Draws.list (A := X.A.in1) hh i2 b nb its2.toArray) (Draws.list (A := X.A.in1) hh i3 c nc its3.toArray) hz hTI hTO ⟨h1, p.isList⟩ ⟨h2, p2.isList⟩ ⟨h3, p3.isList⟩ (by rw [List.size_toArray]; exact l1) (by rw [List.size_toArray]; exact l2) (by rw [List.size_toArray]; exact l3) fun x1 x2 x3 h' tk q1 q2 q3 z' TO' s1' s2' s3' hT _ hk => ?_
    have e1 : x1 = u := by rw [← Array.getElem?_toList] at q1; exact Option.some.inj (q1.symm.trans hu)
    have e2 : x2 = u2 := by rw [← Array.getElem?_toList] at q2; exact Option.some.inj (q2.symm.trans hu2)
    have e3 : x3 = u3 := by rw [← Array.getElem?_toList] at q3; exact Option.some.inj (q3.symm.trans hu3)
    subst e1 e2 e3
    refine ⟨_, rfl, wpAny_letOwnedTupleGo_zip (s := { s with heap := h', toks := tk }) z' fun h'' z'' sb => ?_⟩
    have hT2 : h''.get? s.heap.objs.size = some { cls := .type "tuple", data := .seq #[x1, x2, x3] } := (sb.2 _ (Nat.ne_of_gt zl)).trans hT
    have new : ObjOk X.prog X.w (upd H s.heap.objs.size (.tup [x, y, zz])) h'' s.heap.objs.size (.tup [x, y, zz]) := ⟨by show 3 ≤ sizeLine; decide, [x1, x2, x3], .cons ru (.cons ru2 (.cons ru3 .nil)), ⟨_, hT2, rfl, _, rfl⟩⟩
    have I1 : Inv X pins σ (upd H s.heap.objs.size (.tup [x, y, zz])) { s with heap := h'', toks := tk } :=
      I.turnedNew (t' := tk) (ch := [z, TI, TO, i1, i2, i3]) (fun c o hb q => by
        simp only [List.mem_cons, List.mem_nil_iff, or_false, not_or] at hb
        exact (sb.2 c hb.1).trans (hk c o hb.1 hb.2.2.1 hb.2.2.2.1 hb.2.2.2.2.1 hb.2.2.2.2.2 q)) hf (Nat.le_refl _) new
    refine ⟨.ref s.heap.objs.size, _, I1, rfl, ⟨_, x, y, zz, rfl, I.hok.fresh (Nat.le_refl _), rfl, fun l hl => by rw [I.list_inj hl hqx]; exact hx, fun l hl => by rw [I.list_inj hl hqy]; exact hy, fun l hl => by rw [I.list_inj hl hqz]; exact hzz⟩, ⟨z'', ?_, ⟨x1, x2, x3, ?_⟩, ?_, ?_, ?_⟩, fun c hcm => ?_⟩
    · exact (sb.2 _ D.TIz).trans (hk _ _ D.TIz D.TITO D.TIi1 D.TIi2 D.TIi3 hTI)
    · exact (sb.2 _ D.TOz).trans TO'
    · exact s1'.1.at fun o q => (sb.2 _ D.zi1.symm).trans q
    · exact s2'.1.at fun o q => (sb.2 _ D.zi2.symm).trans q
    · exact s3'.1.at fun o q => (sb.2 _ D.zi3.symm).trans q
    · have hlt : c < s.heap.objs.size := by
        simp only [List.mem_cons, List.mem_nil_iff, or_false] at hcm
        rcases hcm with q | q | q | q | q | q
        · exact q ▸ zl
        · exact q ▸ Heap.lt_size hTI
        · exact q ▸ Heap.lt_size hTO
        · obtain ⟨_, e1, _⟩ := h1
          exact q ▸ Heap.lt_size e1
        · obtain ⟨_, e2, _⟩ := h2
          exact q ▸ Heap.lt_size e2
        · obtain ⟨_, e3, _⟩ := h3
          exact q ▸ Heap.lt_size e3
      rw [upd_ne (Nat.ne_of_lt hlt)]
      exact (hf c hcm).1
  done := by
    intro X hP hw hK hc i pins s σ H E I hf ⟨hz, hTI, ⟨x0, y0, u0, hTO⟩, h1, h2, h3⟩ ⟨xs, ys, zs, hqx, hqy, hqz, m1, m2, m3, hend⟩
    subst hP hw hK
    obtain ⟨its, rv, p, _⟩ := I.list hqx
    obtain ⟨its2, rv2, p2, _⟩ := I.list hqy
    obtain ⟨its3, rv3, p3, _⟩ := I.list hqz
    have hh := I.ok.hd hc
    have l1 := rv.length
    have l2 := rv2.length
    have l3 := rv3.length
    exact wpAny_pyNext_zipD3_end (i := i) D (Draws.list (A := X.A.in1) hh i1 a na its.toArray) (Draws.list (A := X.A.in1) hh i2 b nb its2.toArray) (Draws.list (A := X.A.in1) hh i3 c nc its3.toArray) hz hTI hTO ⟨h1, p.isList⟩ ⟨h2, p2.isList⟩ ⟨h3, p3.isList⟩ (by rw [List.size_toArray]; omega) (by rw [List.size_toArray]; omega) (by rw [List.size_toArray]; omega)
      (by rw [List.size_toArray, List.size_toArray, List.size_toArray]; omega)
      fun h' tk hk => ⟨rfl, I.turnedL (t' := tk) (ch := [z, TI, TO, i1, i2, i3]) (fun c o hb q => by
        simp only [List.mem_cons, List.mem_nil_iff, or_false, not_or] at hb
        exact hk c o hb.1 hb.2.2.1 hb.2.2.2.1 hb.2.2.2.2.1 hb.2.2.2.2.2 q) hf⟩
  self := fun A i s Q E st h => wpAny_pyIter_zip st.1 h
def iZip3 (K : PySem.W.Frag) (ta : TA) : TI := fun σ H R => ta σ H fun vs H1 => ∃ (a b c : Addr) (xs ys zs : List V), vs = [.ref a, .ref b, .ref c] ∧ SqL K H1 a xs ∧ SqL K H1 b ys ∧ SqL K H1 c zs ∧ R (It3 K a b c) H1
theorem pi_zip3 {X : Cx} {K : PySem.W.Frag} {e e2 e3 : Expr} {ta : TA} {p pos tpos : Pos} {elts : List Expr} {kk : Nat} (hK : X.K = K) (hg : Gl X "zip") (hm : X.mg "zip" = none) (ha : PA X [e, e2, e3] ta)
    (hs : starEach [e, e2, e3] X.env = (false, eval e X.env) :: starEach [e2, e3] X.env := by rfl) (hpl : (backTo pos (starEach [e2, e3] X.env)).any (·.1) = false := by rfl) :
    PI X (.Tuple elts kk tpos) (.Call (.Name "zip" p) [e, e2, e3] [] pos) (iZip3 K ta) := by
  subst hK
  refine ⟨fun pins s σ H R I h => ?_⟩
  refine Call_ (ld_blt I hg hm PyProof.Rows.boot_zip (PyProof.Rows.callWith_type1 (thn (ha.run pos pins s σ H _ I h) fun us s1 ⟨vs, H1, I1, r1, a, b, c, xs, ys, zs, ex, hqx, hqy, hqz, q⟩ => ?_) hs hpl))
  subst ex
  cases r1 with
  | cons r rr =>
  cases rr with
  | cons r' rr =>
  cases rr with
  | cons r'' rr =>
  cases rr
  cases r
  cases r'
  cases r''
  obtain ⟨its, rv, p1, _⟩ := I1.list hqx
  obtain ⟨its2, rv2, p2, _⟩ := I1.list hqy
  obtain ⟨its3, rv3, p3, _⟩ := I1.list hqz
  refine call_zt p1.isList p2.isList p3.isList fun h' hz hTI hTO h1 h2 h3 hk => wpAny_pyIter_zip hz ?_
  have I2 : Inv X pins σ H1 { s1 with heap := h' } := I1.kept (t' := s1.toks) hk
  have D := sep_t s1.heap.objs.size a b c p1.lt p2.lt p3.lt
  refine ⟨s1.heap.objs.size + 5, [s1.heap.objs.size + 5, s1.heap.objs.size + 3, s1.heap.objs.size + 4, s1.heap.objs.size, s1.heap.objs.size + 1, s1.heap.objs.size + 2], _, _, H1, rfl, I2, turn_3 D (Nat.ne_of_lt p1.lt) (ne_add _ _ 1 p2.lt) (ne_add _ _ 2 p3.lt), ⟨hz, hTI, ⟨_, _, _, hTO⟩, h1, h2, h3⟩, fun c hcm => ?_, q⟩
  have hle : s1.heap.objs.size ≤ c := by
    simp only [List.mem_cons, List.mem_nil_iff, or_false] at hcm
    exact le_two hcm
  exact I1.fpOk hle (I1.hok.fresh hle)
theorem for_zip3 {K : PySem.W.Frag} {a b c : Addr} {xs ys zs : List V} {g : TG} {tb : TS} {D : Ends} {σ : L2.St} {H : Hp} (h1 : xs.length = ys.length) (h2 : xs.length = zs.length) (Pv : Nat → L2.St → Hp → Prop) (h0 : Pv 0 σ H)
    (hq : ∀ i σ H, Pv i σ H → SqL K H a xs ∧ SqL K H b ys ∧ SqL K H c zs)
    (hs : ∀ i x y z T σ H, xs[i]? = some x → ys[i]? = some y → zs[i]? = some z → Pv i σ H → H T = none → g (.ref T) σ (upd H T (.tup [x, y, z])) fun σ2 H2 => tb { nx := Pv (i + 1), rt := D.rt, bk := D.nx, ct := Pv (i + 1) } σ2 H2)
    (hd : ∀ σ H, Pv xs.length σ H → D.nx σ H) :
    ∃ W : Nat → Nat → L2.St → Hp → Prop, (∃ m, W 0 m σ H) ∧ ∀ i m σ H, W i m σ H → ((It3 K a b c).stop i H ∧ D.nx σ H) ∨ ((It3 K a b c).go i H ∧ ∃ N : L2.St → Hp → Prop, (∀ σ' H', N σ' H' → ∃ m', m' < m ∧ W (i + 1) m' σ' H') ∧
      ∀ x H', (It3 K a b c).yld i H x H' → g x σ H' fun σ2 H2 => tb { nx := N, rt := D.rt, bk := D.nx, ct := N } σ2 H2) := by
  refine ⟨fun i m σ H => Pv i σ H ∧ i + m = xs.length, ⟨xs.length, h0, Nat.zero_add _⟩, fun i m σ H ⟨hp, em⟩ => ?_⟩
  obtain ⟨qx, qy, qz⟩ := hq i σ H hp
  cases m with
  | zero =>
    have e : i = xs.length := em
    subst e
    exact .inl ⟨⟨xs, ys, zs, qx, qy, qz, Nat.le_refl _, by omega, by omega, .inl rfl⟩, hd σ H hp⟩
  | succ m =>
    have li : i < xs.length := by omega
    have hx := List.getElem?_eq_getElem li
    have hy := List.getElem?_eq_getElem (l := ys) (i := i) (by omega)
    have hz := List.getElem?_eq_getElem (l := zs) (i := i) (by omega)
    refine .inr ⟨⟨xs, ys, zs, _, _, _, qx, qy, qz, hx, hy, hz⟩, Pv (i + 1), fun σ' H' h' => ⟨m, Nat.lt_succ_self m, h', by omega⟩, ?_⟩
    rintro _ _ ⟨T, x, y, z, rfl, hT, rfl, ex, ey, ez⟩
    exact hs i x y z T σ H (ex xs qx) (ey ys qy) (ez zs qz) hp hT
end Bs
namespace Bs
open PySem PySem.Spec PyProof.Rows L2 GenW
/-! ### yield from a list -/
section
variable {prog : Program} {w : World} {A : Around} {E : Value → Shared → Prop} {s : Shared}
theorem sp_list_item {it l : Addr} {i : Nat} {items : Array Value} {x : Value} {Q : Option Value → Shared → Prop} (hit : s.heap.IsListIter it l i) (hl : s.heap.IsList l items) (hx : items[i]? = some x)
    (hQ : ∀ h', h'.IsListIter it l (i + 1) → Heap.SameBut it s.heap h' → Q (some x) { s with heap := h' }) : wpAny (model prog w) A (callSpecial? (.ref it) "__next__") Q E s := by
  obtain ⟨o, ho, hc, hd⟩ := id hit
  obtain ⟨ol, hol, _, nl, hdl⟩ := hl
  refine wpAny_callSpecial?_slot (name := Str.ofString "__next__") hit.typeIs slot_listiter_next (wpAny_call_entry slot_listiter_next hit.typeIs entry_listiter_next ?_ (args_listiter_next _))
  show wpAny _ _ (field (.ref it) 0 >>= _) _ _ s
  refine wpAny_bind (wpAny_field ho hd (x := .ref l) rfl ?_)
  show wpAny _ _ (if (Value.ref l == Value.none) = true then _ else _) _ _ s
  rw [if_neg (show ¬ ((Value.ref l == Value.none) = true) from Bool.false_ne_true)]
  show wpAny _ _ (field (.ref it) 1 >>= _) _ _ s
  refine wpAny_bind (wpAny_field ho hd (x := .int i 0) rfl ?_)
  show wpAny _ _ (seqItems? (.ref l) >>= _) _ _ s
  refine wpAny_bind (wpAny_seqItems hol hdl ?_)
  simp only [Int.toNat_natCast, hx]
  refine wpAny_bind (wpAny_setField ho hd (by simp) (wpAny_pure ⟨x, rfl, hQ _ ?_ (Heap.SameBut.update ..)⟩))
  exact ⟨_, Heap.get?_update_self _ ho (Obj.isFreed_of_fields (Obj.data_mapFields hd _)), (Obj.cls_mapFields ..).trans hc, by rw [Obj.data_mapFields hd]; simp [rawInt]⟩
theorem sp_list_end {it l : Addr} {i : Nat} {items : Array Value} {Q : Option Value → Shared → Prop} (hh : A.handled = none) (hit : s.heap.IsListIter it l i) (hl : s.heap.IsList l items) (hx : items[i]? = none)
    (hE : ∀ e h', StopX e h' → Heap.ExtBut it s.heap h' → E e { s with heap := h' }) : wpAny (model prog w) A (callSpecial? (.ref it) "__next__") Q E s := by
  obtain ⟨o, ho, hc, hd⟩ := id hit
  obtain ⟨ol, hol, _, nl, hdl⟩ := hl
  refine wpAny_callSpecial?_slot (name := Str.ofString "__next__") hit.typeIs slot_listiter_next (wpAny_call_entry slot_listiter_next hit.typeIs entry_listiter_next ?_ (args_listiter_next _))
  show wpAny _ _ (field (.ref it) 0 >>= _) _ _ s
  refine wpAny_bind (wpAny_field ho hd (x := .ref l) rfl ?_)
  show wpAny _ _ (if (Value.ref l == Value.none) = true then _ else _) _ _ s
  rw [if_neg (show ¬ ((Value.ref l == Value.none) = true) from Bool.false_ne_true)]
  show wpAny _ _ (field (.ref it) 1 >>= _) _ _ s
  refine wpAny_bind (wpAny_field ho hd (x := .int i 0) rfl ?_)
  show wpAny _ _ (seqItems? (.ref l) >>= _) _ _ s
  refine wpAny_bind (wpAny_seqItems hol hdl ?_)
  simp only [Int.toNat_natCast, hx]
  refine wpAny_bind (wpAny_rule (wpAny_bind (wpAny_setField ho hd (by simp) ?_)))
  show wpAny _ _ (newExc (.type "StopIteration") [] >>= _) _ _ _
  refine wpAny_bind ?_
  simp only [newExc, newTuple]
  refine wpAny_bind (wpAny_newObj_type ?_ (by size_fits))
  refine wpAny_bind (m := firstArgMember _ _) (wpAny_of_eq (a := Value.none) (by first | rfl | (simp only [firstArgMember]; rfl)) ?_)
  refine wpAny_newObj_type ?_ (by size_fits)
  simp only [raiseNew]
  refine wpAny_bind (wpAny_handled ?_)
  first | rw [show A.in1.handled = none from hh] | rw [hh]
  refine wpAny_bind (wpAny_pure (wpAny_throw ?_))
  refine hE _ _ ⟨_, _, _, rfl, Heap.get?_push_size _ rfl, rfl, rfl, ?_⟩ (((Heap.SameBut.update ..).extBut.push _).push _)
  first
    | rfl
    | (rw [Array.getElem?_append_left (by decide)]; rfl)
    | kernel_rfl
end
def tYfLst (te : TE) : TYf := fun σ H Q => te σ H fun x H1 => ∃ a xs, x = .ref a ∧ H1 a = some (.lst xs) ∧ Q xs H1
theorem close_lst : typeLookup (.type "list_iterator") "close" = pure none := by rw [typeLookup_type, builtinLookup_eq_fast]; kernel_rfl
theorem yf_lst {X : Cx} {e : Expr} {te : TE} (he : PE X e te) : YfE X e (tYfLst te) := by
  refine ⟨fun pins s σ H Q I h => ?_⟩
  refine thn (he.run pins s σ H _ I h) fun v s1 ⟨x, H1, I1, r1, a, xs, ex, ha, hq⟩ => ?_
  subst ex
  obtain rfl : v = Value.ref a := r1
  obtain ⟨hlen, its, cap, rits, ht0⟩ := (show ObjOk X.prog X.w H1 s1.heap a (.lst xs) from I1.hok a _ ha)
  have ht : s1.heap.IsList a its.toArray := ⟨_, ht0, rfl, _, rfl⟩
  have htl : a < s1.heap.objs.size := Heap.lt_size ht0
  refine ⟨"list", ht.typeIs, by decide, wpAny_pyIter_list ht ?_⟩
  have ksz : ∀ b o, s1.heap.get? b = some o → b ≠ s1.heap.objs.size := fun b o e => Nat.ne_of_lt (Heap.lt_size e)
  have kp : ∀ b o, s1.heap.get? b = some o → (s1.heap.push { cls := .type "list_iterator", data := .fields #[.ref a, .int 0 0] }).get? b = some o := fun b o e => Heap.get?_push_of_some _ e
  refine ⟨s1.heap.objs.size, H1, xs, fun j h => h.IsListIter s1.heap.objs.size a j ∧ h.IsList a its.toArray, rfl, I1.kept (t' := s1.toks) kp, .inr I1.sz, Nat.ne_of_gt I1.lt, fun y c hy => ?_, I1.hok.fresh (Nat.le_refl _), fun p hp => ?_,
    ⟨⟨_, Heap.get?_push_size _ rfl, rfl, rfl⟩, ⟨_, kp _ _ ht0, rfl, _, rfl⟩⟩, ⟨⟨"list_iterator", fun j h q => ?_, close_lst, by decide⟩, fun j h h' q hk => ?_, fun A' j x s2 Q' E' hA hx q hQ => ?_, fun A' s2 Q' E' hA q hE => ?_⟩, hq⟩
  · obtain ⟨v, o, ho, _⟩ := I1.cell y c hy
    exact ksz c o ho
  · exact ksz p.1 _ (I1.pin p hp).1
  · obtain ⟨⟨o, ho, hc, _⟩, _⟩ := q
    exact ⟨o, ho, hc⟩
  · obtain ⟨⟨o, ho, r⟩, o2, ho2, r2⟩ := q
    exact ⟨⟨o, hk _ o (.inl rfl) ho, r⟩, o2, hk _ o2 (.inr (by rw [ha]; exact fun z => by cases z)) ho2, r2⟩
  · obtain ⟨q1, q2⟩ := q
    obtain ⟨u, hu, ru⟩ := rits.get hx
    have hne : a ≠ s1.heap.objs.size := Nat.ne_of_lt htl
    refine sp_list_item q1 q2 (x := u) (by simpa using hu) fun h' q1' hs => hQ u h' s2.toks ru ⟨q1', ?_⟩ fun b o hb eb => hs.extBut b o hb eb
    obtain ⟨o2, ho2, r2⟩ := q2
    exact ⟨o2, hs.extBut _ _ hne ho2, r2⟩
  · obtain ⟨q1, q2⟩ := q
    have hnone : its.toArray[xs.length]? = none := by
      have e := rits.length
      have e2 : its[xs.length]? = none := List.getElem?_eq_none_iff.mpr (by omega)
      simpa using e2
    exact sp_list_end hA q1 q2 hnone fun e h' hS hk => hE e h' s2.toks hS fun b o hb eb => hk b o hb eb
/-! ### list(d.values()) -/
theorem kv_at {κ : Type} : ∀ {kvs : List (κ × V)} {vs : List (κ × Value)}, KV kvs vs → ∀ {j : Nat} {x : V} {k : κ} {w : Value}, (kvs.map fun kv => kv.2)[j]? = some x → vs[j]? = some (k, w) → RelV x w
  | _, _, .cons r t, 0, _, _, _, h1, h2 => by
    simp only [List.map_cons, List.getElem?_cons_zero, Option.some.injEq] at h1 h2
    rw [← h1]
    have e := r.2
    rw [h2] at e
    exact e
  | _, _, .cons r t, j + 1, _, _, _, h1, h2 => kv_at t (j := j) (by simpa using h1) (by simpa using h2)
  | _, _, .nil, _, _, _, _, _, h2 => by simp at h2
def tLV (td : TE) : TE := fun σ H Q => td σ H fun x H1 => ∃ d kvs, x = .ref d ∧ H1 d = some (.dK kvs) ∧ ∀ q, H1 q = none → Q (.ref q) (upd H1 q (.lst (kvs.map fun kv => kv.2)))
theorem pe_listVals {X : Cx} {e : Expr} {td : TE} {p pos apos cpos : Pos} (hc : X.calm = true) (hg : Gl X "list") (hmg : X.mg "list" = none) (he : PE X e td)
    (hbase : attributeBase e "values" X.env (eval e X.env) = eval e X.env := by rfl) (hline : (apos.endLine == cpos.line) = true := by rfl)
    (hst : starEach [.Call (.Attribute e "values" apos) [] [] cpos] X.env = (false, eval (.Call (.Attribute e "values" apos) [] [] cpos) X.env) :: starEach [] X.env := by rfl) :
    PE X (.Call (.Name "list" p) [.Call (.Attribute e "values" apos) [] [] cpos] [] pos) (tLV td) := by
  refine ⟨fun pins s σ H Q I h => ?_⟩
  refine wpAny_Call_Name_kw (ld_blt I hg hmg boot_list ?_ (by decide) (by decide))
  refine PyProof.Rows.callWith_type1 ?_ hst rfl
  rw [hst]
  show wpAny _ _ (spliced ((false, eval (.Call (.Attribute e "values" apos) [] [] cpos) X.env) :: backTo pos (starEach [] X.env))) _ _ s
  refine Calls.spliced_cons ?_
  refine wpAny_Call_method (T := "dict") (id := "dict.values") hbase rfl hline F.plainAttrs_dict F.slot_dict_values F.type_dict_values (thn (he.run pins s σ H _ I h) fun u s1 ⟨x, H1, I1, rx, d, kvs, ex, hd, q⟩ => ?_)
  subst ex
  obtain rfl : u = Value.ref d := rx
  obtain ⟨z, lo, vs, rk, hdd⟩ := (show ObjOk X.prog X.w H1 s1.heap d (.dK kvs) from I1.hok d _ hd)
  obtain ⟨ep, hat⟩ := hdd.dictAt
  have hl : kvs.length = vs.length := Paired.length rk
  refine ⟨hdd.typeIs, hdd.mapOf.noDict, ?_⟩
  show wpAny _ _ (callWith cpos (.builtin "dict.values") [.ref d] [] []) _ X.xe s1
  refine method_meetsIn F.slot_dict_values F.entry_dict_values rfl (PySem.evalArgs_none ⟨rfl, hdd.typeIs, F.args_dict_values_1 _, _, meets_dict_values (mixKind X.prog X.w) d lo, ⟨vs, hdd⟩, ?_⟩)
  refine Calls.spliced_nil ?_
  have kp : ∀ b o, s1.heap.get? b = some o → (s1.heap.push { cls := .type "dict_values", data := .fields #[.ref d] }).get? b = some o := fun b o e => Heap.get?_push_of_some _ e
  have I2 : Inv X pins σ H1 { s1 with heap := s1.heap.push { cls := .type "dict_values", data := .fields #[.ref d] } } := I1.kept (t' := s1.toks) kp
  refine PySem.W.kdl_call (s := { s1 with heap := s1.heap.push { cls := .type "dict_values", data := .fields #[.ref d] } }) (PySem.W.kdl_values (knd := mixKind X.prog X.w) (kvs := vs) (ep := ep) (r := s1.heap.objs.size) (d := d)) (I2.ok.hd hc) ⟨⟨_, Heap.get?_push_size _ rfl, rfl, rfl⟩, hat.push _⟩ (by rw [← hl]; exact z) fun h' tk acc' c' hkeep hS hacc => ?_
  refine ⟨.ref _, upd H1 _ (.lst (kvs.map fun kv => kv.2)), I2.laid hkeep (Nat.le_refl _) (show ObjOk X.prog X.w _ _ _ (.lst (kvs.map fun kv => kv.2)) from ⟨?_, acc'.toList, c', ?_, ?_⟩), rfl, q _ (I2.hok.fresh (Nat.le_refl _))⟩
  · rw [List.length_map]; exact z
  · have el : acc'.toList.length = acc'.size := by simp
    refine vals_of_at (by rw [List.length_map, el, hacc.1, hl]) fun j x w h1 h2 => ?_
    obtain ⟨k, hky⟩ := hacc.2 j w (by rw [← Array.getElem?_toList]; exact h2)
    exact kv_at rk h1 hky
  · rw [Array.toArray_toList]; exact hS
end Bs
/-! ### None in a list whose items answer == by their own __eq__ -/
namespace Bs
open PySem PySem.Spec PyProof.Rows L2 GQ
open PySem.MeetsSeq (plain_contains_loop entry_contains_loop)
open PySem.AutoSeq1 (wpAny_loadPart')
section
variable {prog : Program} {w : World} {A : Around} {E : Value → Shared → Prop} {R : Result → Shared → Prop}
def ConI (prog : Program) (w : World) (A : Around) (E : Value → Shared → Prop) (l : Addr) (x : Value) (N : Nat) (I : Nat → Shared → Prop) : Prop :=
  ∀ i s, I i s → ∃ (items : Array Value) (n : Nat), s.heap.get? l = some { cls := .type "list", data := .seq items n } ∧ items.size = N ∧ ∀ h1 : i < items.size, wpAny (model prog w) A.in1 (eqBool items[i] x) (fun r s' => r = false ∧ I (i + 1) s') E s
theorem con_loop (l : Addr) (x : Value) (N : Nat) (I : Nat → Shared → Prop) (hl : ConI prog w A (fun e s' => R (.error e) s') l x N I) (fin : ∀ s, I N s → R (.ok (.ret (.bool false))) s) (k : Nat) :
    ∀ i : Nat, N - i = k → i ≤ N → ∀ s, I i s → wpAny (model prog w) A.in1 (Builtin.«list.__contains__.loop» ⟨[.ref l, x, rawInt i], []⟩) (FinOf prog w A R) (fun e s' => R (.error e) s') s := by
  induction k with
  | zero =>
    intro i hk hi s h
    obtain ⟨items, n, hl1, hs1, _⟩ := hl _ _ h
    have hi' : i = N := by omega
    have hR := fin s (hi' ▸ h)
    obtain ⟨hp, g, d, tk, os⟩ := s
    wp_walk using wpAny_loadPart' hl1
    have hi1 : items[((i : Nat) : Int).toNat]? = none := by simp; omega
    rw [hi1]
    wp_walk
    exact hR
  | succ k ih =>
    intro i hk hi s h
    obtain ⟨items, n, hl1, hs1, turn⟩ := hl _ _ h
    have hlt : i < items.size := by omega
    have ht := turn hlt
    obtain ⟨hp, g, d, tk, os⟩ := s
    wp_walk using wpAny_loadPart' hl1
    have hi1 : items[((i : Nat) : Int).toNat]? = some items[i] := by simp [hlt]
    have hc : ((i : Int) + 1) = ((i + 1 : Nat) : Int) := by omega
    rw [hi1]
    refine wpAny_bind (wpAny_mono ht (fun r s2 h2 => ?_) fun _ _ x => x)
    obtain ⟨hr, h2⟩ := h2
    subst hr
    have hrec := ih (i + 1) (by omega) (by omega) s2 h2
    obtain ⟨hp2, g2, d2, tk2, os2⟩ := s2
    wp_walk
    rw [hc]
    exact ⟨plainId_quiet plain_contains_loop _, codeAny_builtin entry_contains_loop (by
      rw [Around.under_plainId plain_contains_loop _]
      exact hrec)⟩
theorem con_list (l : Addr) (x : Value) (N : Nat) (I : Nat → Shared → Prop) (hl : ConI prog w A (fun e s' => R (.error e) s') l x N I) (fin : ∀ s, I N s → R (.ok (.ret (.bool false))) s) {s : Shared} (h : I 0 s) :
    wpAny (model prog w) A.in1 (Builtin.«list.__contains__» ⟨[.ref l, x], []⟩) (FinOf prog w A R) (fun e s' => R (.error e) s') s := by
  obtain ⟨items, n, hl1, hs1, _⟩ := hl _ _ h
  have hrec := con_loop (A := A) (R := R) l x N I hl fin _ 0 rfl (Nat.zero_le _) s h
  obtain ⟨hp, g, d, tk, os⟩ := s
  wp_walk using wpAny_loadPart' hl1
  exact ⟨plainId_quiet plain_contains_loop _, codeAny_builtin entry_contains_loop (by
    rw [Around.under_plainId plain_contains_loop _]
    exact hrec)⟩
theorem con_in (l : Addr) (x : Value) (N : Nat) (I : Nat → Shared → Prop) {Q : Value → Shared → Prop} (hl : ConI prog w A E l x N I) (fin : ∀ s, I N s → Q (.bool false) s) {s : Shared} (h : I 0 s) :
    wpAny (model prog w) A (compareOp .In x (.ref l)) Q E s := by
  obtain ⟨items, n, hl1, hs1, _⟩ := hl _ _ h
  show wpAny _ A (do return .bool (← contains (.ref l) x)) Q E s
  refine wpAny_bind (wpAny_contains_slot ⟨_, hl1, rfl⟩ F.slot_list_contains ?_)
  refine wpAny_mono (call_here (Q := fun v s' => v = .bool false ∧ Q (.bool false) s') F.slot_list_contains ⟨_, hl1, rfl⟩ F.entry_list_contains (F.args_list_contains_2 _ _) (con_list (R := wants (fun v s' => v = .bool false ∧ Q (.bool false) s') E) l x N I hl (fun s' q => ⟨rfl, fin s' q⟩) h)) (fun v s' hv => ?_) fun _ _ e => e
  obtain ⟨rfl, q⟩ := hv
  exact wpAny_truthy_bool (wpAny_pure q)
end
section
variable {X : Cx} {n : Nat} {C : Addr}
theorem rich_own {A : Around} {pins : List (Addr × Obj)} {s : Shared} {σ : L2.St} {H : Hp} {a dx : Addr} {fs : List (Str × V)} {y : V} {v t : Value} {r : Bool} {D : Addr → V → Bool → Hp → Prop} {E : Value → Shared → Prop} (O : OwnE X n C D) (hr : Room n A) (hfr : A.frames = X.A.frames)
    (I : Inv X pins σ H s) (ha : H a = some (.ins C dx fs)) (ry : RelV y v) (ty : TyX X.K H y t) (nf : PySem.W.notFirst X.K C t = true) (d : D a y r H) :
    wpAny (model X.prog X.w) A (richCompare .Eq (.ref a) v) (fun u s' => u = .bool r ∧ Inv X pins σ H s') E s := by
  obtain ⟨f, fd, ps, F, hs, hf, hb⟩ := O.ex
  obtain ⟨mA, J, _⟩ := ins_get I.hok ha
  obtain ⟨od, J, _⟩ := J.look
  obtain ⟨m, hF⟩ := I.fr
  obtain ⟨P, kx, hP, _⟩ := kit_of I ry ty
  refine PySem.W.cmp_K (op := .Eq) (tb := t) hr.units0 hF I.ok.mod.kin J (kx.ty _ _ I.kIn hP) nf hs hf ?_
  refine wpAny_mono (own_call F hb hr hfr I ry d) (fun u s' ⟨eu, I'⟩ => ?_) fun _ _ x => x
  subst eu
  exact ⟨rfl, I'⟩
def rNoneIn (K : PySem.W.Frag) (C : Addr) (D : Addr → V → Bool → Hp → Prop) : R2 := fun x y H Q => ∃ (l : Addr) (xs : List V), x = .non ∧ y = .ref l ∧ H l = some (.lst xs) ∧ PySem.W.notFirst K C (.type "NoneType") = true ∧
  (∀ z ∈ xs, ∃ (a dx : Addr) (fs : List (Str × V)), z = .ref a ∧ H a = some (.ins C dx fs) ∧ D a .non false H) ∧ Q (.bl false) H
theorem op_noneIn {K : PySem.W.Frag} {D : Addr → V → Bool → Hp → Prop} (hK : X.K = K) (O : OwnE X n C D) (hr : Room (n + 1) X.A) : OpR X (compareOp .In) (rNoneIn K C D) := by
  subst hK
  intro pins s σ H x y v u Q I rx ry h
  obtain ⟨l, xs, rfl, rfl, hl, nf, hxs, q⟩ := h
  cases ry
  cases (show v = Value.none from rx)
  refine con_in l .none xs.length (fun i s' => Inv X pins σ H s') (fun i s' I' => ?_) (fun s' I' => ⟨.bl false, H, I', rfl, q⟩) I
  obtain ⟨its, c, r, hg, hz⟩ := I'.lst hl
  refine ⟨its.toArray, c, hg, by rw [List.size_toArray, ← r.length], fun h1 => ?_⟩
  have h2 : i < its.length := by simpa using h1
  have h3 : i < xs.length := by rw [r.length]; exact h2
  obtain ⟨a, dx, fs, e1, e2, e3⟩ := hxs xs[i] (List.getElem_mem h3)
  obtain ⟨u, hu, ru⟩ := r.get (List.getElem?_eq_getElem h3)
  rw [e1] at ru
  cases ru
  have e4 : its.toArray[i] = Value.ref a := by
    rw [List.getElem?_eq_getElem h2] at hu
    simpa using Option.some.inj hu
  rw [e4]
  unfold eqBool
  refine wpAny_holding ?_
  refine wpAny_ite_split (fun hab => absurd hab (by intro z; cases z)) (fun _ => ?_)
  refine wpAny_bind (wpAny_mono (rich_own O hr.in1 rfl I' e2 (y := .non) (v := .none) rfl (.base .non) nf e3) (fun u' s2 h4 => ?_) fun _ _ x => x)
  obtain ⟨rfl, I2⟩ := h4
  exact wpAny_truthy_bool ⟨rfl, I2⟩
end
end Bs
namespace Bs
open PySem PySem.Spec PyProof.Rows L2
variable {P : Program} {w : World} {K : PySem.W.Frag} {mg : Str → Option Value} {base : Heap}
section
variable {a : Addr} {i l j : Int} {H : Hp} {p : Addr}
abbrev penL (a : Addr) (i l : Int) : List (Key × V) := [(Sum.inr "script", .ref a), (Sum.inr "at", .int i), (Sum.inr "left", .int l)]
theorem ink {x y : Str} (h : ¬ x = y) : ¬ ((Sum.inr x : Key) = Sum.inr y) := fun q => h (Sum.inr.inj q)
theorem pen_gs : valV (penL a i l) (Sum.inr "script") = some (.ref a) := valV_pos rfl
theorem pen_ga : valV (penL a i l) (Sum.inr "at") = some (.int i) := by rw [valV_neg (ink script_ne.1), valV_pos rfl]
theorem pen_gl : valV (penL a i l) (Sum.inr "left") = some (.int l) := by rw [valV_neg (ink script_ne.2.1), valV_neg (ink script_ne.2.2.1), valV_pos rfl]
theorem pen_pa : putK (penL a i l) (Sum.inr "at") (.int j) = penL a j l := by
  simp [putK, script_ne]
theorem pen_pl : putK (penL a i l) (Sum.inr "left") (.int j) = penL a i j := by
  simp [putK, script_ne]
theorem pen_s (h : H p = some (penD a i l)) : DGet H p (.str "script") (some (.ref a)) := by rw [← pen_gs (a := a) (i := i) (l := l)]; exact DGet.k (k := Sum.inr "script") h
theorem pen_a (h : H p = some (penD a i l)) : DGet H p (.str "at") (some (.int i)) := by rw [← pen_ga (a := a) (i := i) (l := l)]; exact DGet.k (k := Sum.inr "at") h
theorem pen_l (h : H p = some (penD a i l)) : DGet H p (.str "left") (some (.int l)) := by rw [← pen_gl (a := a) (i := i) (l := l)]; exact DGet.k (k := Sum.inr "left") h
theorem pen_ua (h : H p = some (penD a i l)) : DPut H p (.str "at") (.int j) (upd H p (penD a j l)) := by
  have z := DPut.k (k := Sum.inr "at") (v := .int j) h (show 3 < sizeLine by decide)
  rw [pen_pa] at z
  exact z
theorem pen_ul (h : H p = some (penD a i l)) : DPut H p (.str "left") (.int j) (upd H p (penD a i j)) := by
  have z := DPut.k (k := Sum.inr "left") (v := .int j) h (show 3 < sizeLine by decide)
  rw [pen_pl] at z
  exact z
end
end Bs
namespace Pf
open PySem PySem.Spec PyProof.Rows L2 Bs
variable {P : Program} {w : World} {K : PySem.W.Frag} {mg : Str → Option Value} {base : Heap}
/-! ### the pen -/
def spPen (K : PySem.W.Frag) : Sp := fun vs H Q _ => ∃ (a : Addr) (ns : List Int), vs = [.ref a] ∧ Fz K H a (ns.map V.int) ∧ ns.length ≤ 63 ∧ ∀ (p : Addr) (H' : Hp), H p = none → Same H H' → Pen K H' p 0 → Q (.ref p) H'
abbrev N_Lpen : List Str := ["_law_script"]
theorem sc_Lpen : FnScope N_Lpen ["_law_script"] (defScope s_Lpen) := ⟨rfl, rfl, rfl, by decide +kernel, rfl, by decide +kernel, by decide +kernel⟩
theorem c_Lpen (T : Tx K mg) : C8.Cal P w K mg base 1 "_law_pen" (spPen K) [] := by
  obtain ⟨fd, F⟩ := f_Lpen T
  refine mkCal F (g_law_pen T) (F.bindsN fun _ _ _ _ _ _ us hl => match us, hl with | [_], _ => rfl) .nil sc_Lpen (fun vs H Q E h => ?_) (fun cdv A outer s H vs Q E hr h => ?_)
  · obtain ⟨a, ns, rfl, _⟩ := h
    rfl
  obtain ⟨a, ns, rfl, hS, hl, q⟩ := h
  refine ⟨_, (pss_one (ps_ret (pe_disp (pps_cons pe_str (pv 0) (pps_cons pe_str pe_int (pps_cons pe_str pe_int pps_nil))) (by rfl) (by rfl) (fun z => by cases z) (by decide)))), ?_⟩
  intro p hp
  refine ⟨_, rfl, upd_same, penL a 0 0, rfl, (by show 3 ≤ 15; decide), ?_⟩
  have e : mergeK [] (penL a 0 0) = penL a 0 0 := by simp [mergeK, putK, script_ne]
  rw [e, upd_upd]
  have k : Same H (upd H p (.dK (penL a 0 0))) := Same.new (Same.refl H) hp
  exact q p _ hp k ⟨a, ns, 0, 0, upd_same, hS.to (fun _ _ e => k _ _ e), hl, Int.le_refl 0, Int.le_refl 0, Int.le_refl 0⟩
def spDraw (K : PySem.W.Frag) : Sp := fun vs H Q _ => ∃ (p : Addr) (n : Nat) (m : Int), vs = [.ref p, .int m] ∧ Pen K H p n ∧ n ≤ 1000000 ∧ 0 < m ∧ m < 1000000 ∧
  ∀ (d : Int) (H' : Hp), Kp p H H' → Pen K H' p (n + 1) → 0 ≤ d → d < m → Q (.int d) H'
abbrev N_Ldraw : List Str := ["_law_pen_here", "_law_many", "_law_script", "_law_at", "_law_cell", "_law_number", "_law_digit"]
theorem sc_Ldraw : FnScope N_Ldraw ["_law_pen_here", "_law_many"] (defScope s_Ldraw) := ⟨rfl, rfl, rfl, by decide +kernel, rfl, by decide +kernel, by decide +kernel⟩
theorem c_Ldraw (T : Tx K mg) : C8.Cal P w K mg base 1 "_law_draw" (spDraw K) [] := by
  obtain ⟨fd, F⟩ := f_Ldraw T
  refine mkCal F (g_law_draw T) (F.bindsN fun _ _ _ _ _ _ us hl => match us, hl with | [_, _], _ => rfl) .nil sc_Ldraw (fun vs H Q E h => ?_) (fun cdv A outer s H vs Q E hr h => ?_)
  · obtain ⟨p, n, m, rfl, _⟩ := h
    rfl
  obtain ⟨p, n, m, rfl, hP, hn, hm0, hm1, q⟩ := h
  obtain ⟨a, ns, i, l, hp, hS, h63, hi0, hin, hl0⟩ := id hP
  have hu := hu_of hr
  refine ⟨_, (pss_cons (ps_if (pt_cmpR op_gt (pe_dget hu (pv 0) pe_str (fun _ _ => rfl)) pe_int (nomark _)) (pss_cons (ps_set (i := 6) sc_Ldraw.nd rfl (Or.inl rfl) (pe_op op_modN (pe_callTy call_int1 (by rfl) (z_int T) boot_int (pa_cons (pe_dget hu (pv 0) pe_str (fun _ _ => rfl)) pa_nil)) (pv 1)))
    (pss_cons (ps_dput hu (pv 0) pe_str (pe_op op_fdivN (pe_dget hu (pv 0) pe_str (fun _ _ => rfl)) (pv 1)) rfl)
    (pss_one (ps_ret (pv 6))))) pss_nil)
    (pss_cons (ps_set (i := 2) sc_Ldraw.nd rfl (Or.inl rfl) (pe_dget hu (pv 0) pe_str (fun _ _ => rfl)))
    (pss_cons (ps_set (i := 3) sc_Ldraw.nd rfl (Or.inl rfl) (pe_dget hu (pv 0) pe_str (fun _ _ => rfl)))
    (pss_cons (ps_dput hu (pv 0) pe_str (pe_op op_add (pv 3) pe_int) rfl)
    (pss_cons (ps_set (i := 4) sc_Ldraw.nd rfl (Or.inl rfl) pe_int)
    (C8.pss_cut (ps_if (pt_cmpR op_gt (pe_callB call_len_seq (by rfl) (z_len T) boot_len (pa_cons (pv 2) pa_nil)) pe_int (nomark _)) (pss_one (ps_set (i := 4) sc_Ldraw.nd rfl (Or.inl rfl) (pe_ix ix_list (pv 2) (pe_op op_modN (pe_callTy call_int1 (by rfl) (z_int T) boot_int (pa_cons (pv 3) pa_nil)) (pe_callB call_len_seq (by rfl) (z_len T) boot_len (pa_cons (pv 2) pa_nil))) (fun _ _ => rfl)))) pss_nil)
    (C8.pss_cut (ps_if (PW.pt (pw_and (pt_cmpR op_lt (pv 3) (pe_callB call_len_seq (by rfl) (z_len T) boot_len (pa_cons (pv 2) pa_nil)) (nomark _)) (pw_and1 (pt_cmpR op_ge (pe_callB call_abs (by rfl) (z_abs T) boot_abs (pa_cons (pv 4) pa_nil)) (pe_op op_pow pe_int pe_int) (nomark _))))) (pss_cons (ps_dput hu (pv 0) pe_str (pe_op op_fdivN (pe_callB call_abs (by rfl) (z_abs T) boot_abs (pa_cons (pv 4) pa_nil)) (pv 1)) rfl)
    (pss_one (ps_ret (pe_op op_modN (pe_callTy call_int1 (by rfl) (z_int T) boot_int (pa_cons (pe_callB call_abs (by rfl) (z_abs T) boot_abs (pa_cons (pv 4) pa_nil)) pa_nil)) (pv 1))))) pss_nil)
    (pss_cons (ps_set (i := 5) sc_Ldraw.nd rfl (Or.inl rfl) (pe_op op_add (pe_op op_add (pe_op op_mod (pe_callTy call_int1 (by rfl) (z_int T) boot_int (pa_cons (pv 4) pa_nil)) pe_int) (pe_op op_mul pe_int (pv 3))) pe_int))
    (pss_cons (ps_set (i := 5) sc_Ldraw.nd rfl (Or.inl rfl) (pe_op op_mod (pe_callTy call_int1 (by rfl) (z_int T) boot_int (pa_cons (pe_op op_add (pe_op op_add (pe_op op_mul (pv 5) (pv 5)) (pe_op op_mul pe_int (pv 5))) (pv 3)) pa_nil)) pe_int))
    (pss_cons (ps_set (i := 5) sc_Ldraw.nd rfl (Or.inl rfl) (pe_op op_mod (pe_callTy call_int1 (by rfl) (z_int T) boot_int (pa_cons (pe_op op_add (pe_op op_add (pe_op op_mul (pv 5) (pv 5)) (pe_op op_mul pe_int (pv 5))) (pe_op op_mul pe_int (pv 3))) pa_nil)) pe_int))
    (pss_one (ps_ret (pe_op op_modN (pe_callTy call_int1 (by rfl) (z_int T) boot_int (pa_cons (pe_op op_fdiv (pv 5) pe_int) pa_nil)) (pv 1)))))))))))))), ?_⟩
  have fm : ∀ x : Int, 0 ≤ Int.fmod x m ∧ Int.fmod x m < m := fun x => ⟨Int.fmod_nonneg_of_pos x hm0, Int.fmod_lt_of_pos x hm0⟩
  -- if pen["left"] > 0
  refine ⟨_, rfl, p, _, rfl, pen_l hp, _, _, rfl, rfl, _, rfl, ?_⟩
  refine ite2 (fun c => ?_) (fun c => ?_)
  · refine ⟨_, rfl, p, _, rfl, pen_l hp, .inl ⟨_, rfl, _, rfl, _, _, rfl, rfl, by omega, ?_⟩⟩
    refine ⟨_, rfl, p, _, rfl, pen_l hp, _, rfl, _, _, rfl, rfl, ⟨by omega, by omega⟩, _, rfl, p, _, rfl, pen_ul hp, _, rfl, ?_⟩
    refine q _ _ Kp.upd ⟨a, ns, i, _, upd_same, Fz.kpen hp hS Kp.upd, h63, hi0, by omega, ?_⟩ (fm _).1 (fm _).2
    rw [Int.fdiv_eq_ediv_of_nonneg _ (by omega)]
    exact Int.ediv_nonneg hl0 (by omega)
  · have hS1 : SqL K (upd H p (penD a (i + 1) l)) a (ns.map V.int) := (Fz.kpen hp hS Kp.upd).sq
    have hp1 : upd H p (penD a (i + 1) l) p = some (penD a (i + 1) l) := upd_same
    have hlen : (ns.map V.int).length = ns.length := List.length_map _
    refine ⟨_, rfl, p, _, rfl, pen_s hp, _, rfl, p, _, rfl, pen_a hp, _, rfl, _, _, rfl, rfl, _, rfl, p, _, rfl, pen_ua hp, ?_⟩
    refine ⟨fun σ' H' => ∃ c0 : Int, σ' = [some (.ref p), some (.int m), some (.ref a), some (.int i), some (.int c0), none, none] ∧ H' = upd H p (penD a (i + 1) l), ?_, ?_⟩
    · refine ⟨_, rfl, a, _, rfl, .inl hS1, _, _, rfl, rfl, _, rfl, ?_⟩
      refine ite2 (fun c1 => ?_) (fun c1 => ⟨1009, rfl, rfl⟩)
      have c2 : (0 : Int) < ((ns.map V.int).length : Nat) := of_decide_eq_true c1
      have hi1 := Int.fmod_nonneg_of_pos i c2
      have hi2 := Int.fmod_lt_of_pos i c2
      obtain ⟨v, hv, _⟩ := atI_int (ns := ns) hi1 (by omega)
      exact ⟨_, rfl, _, rfl, .inl ⟨_, rfl, _, rfl, a, _, rfl, .inl hS1, _, _, rfl, rfl, by omega, a, _, _, _, rfl, rfl, hS1, hv, ⟨_, rfl, rfl⟩⟩⟩
    · rintro σ' H' ⟨c0, rfl, rfl⟩
      have hP1 : ∀ j : Int, 0 ≤ j → Pen K (upd H p (penD a (i + 1) j)) p (n + 1) := fun j hj => ⟨a, ns, i + 1, j, upd_same, Fz.kpen hp hS Kp.upd, h63, by omega, by omega, hj⟩
      refine ⟨fun σ' H' => σ' = [some (.ref p), some (.int m), some (.ref a), some (.int i), some (.int c0), none, none] ∧ H' = upd H p (penD a (i + 1) l), ?_, ?_⟩
      · refine ⟨_, rfl, _, rfl, a, _, rfl, .inl hS1, _, _, rfl, rfl, _, rfl, ?_⟩
        refine ite2 (fun _ => ?_) (fun _ => iteF ⟨rfl, rfl⟩)
        refine ⟨_, rfl, _, rfl, _, _, rfl, rfl, ⟨by decide, by decide, by decide⟩, _, _, rfl, rfl, _, rfl, ?_⟩
        refine ite2 (fun _ => ?_) (fun _ => ⟨rfl, rfl⟩)
        have hab : (0 : Int) ≤ (if c0 < 0 then -c0 else c0) := by split <;> omega
        refine ⟨_, rfl, _, rfl, _, rfl, _, _, rfl, rfl, ⟨by omega, by omega⟩, _, rfl, p, _, rfl, pen_ul hp1, _, rfl, _, rfl, .inl ⟨_, rfl, _, rfl, _, _, rfl, rfl, by omega, ?_⟩⟩
        rw [upd_upd]
        refine q _ _ Kp.upd (hP1 _ ?_) (fm _).1 (fm _).2
        rw [Int.fdiv_eq_ediv_of_nonneg _ (by omega)]
        exact Int.ediv_nonneg hab (by omega)
      · rintro σ' H' ⟨rfl, rfl⟩
        refine ⟨_, rfl, .inl ⟨_, rfl, _, _, rfl, rfl, (by show (0 : Int) < 2147483647; decide), _, rfl, _, _, rfl, rfl, .inl ⟨by decide, by decide⟩, _, _, rfl, rfl, _, _, rfl, rfl, ?_⟩⟩
        refine ⟨_, rfl, _, rfl, _, _, rfl, rfl, .inl ⟨by omega, by omega⟩, _, rfl, _, _, rfl, rfl, .inl ⟨by decide, by decide⟩, _, _, rfl, rfl, _, rfl, _, _, rfl, rfl, .inl ⟨_, rfl, _, _, rfl, rfl, (by show (0 : Int) < 2147483629; decide), ?_⟩⟩
        refine ⟨_, rfl, _, rfl, _, _, rfl, rfl, .inl ⟨by omega, by omega⟩, _, rfl, _, _, rfl, rfl, .inl ⟨by decide, by decide⟩, _, _, rfl, rfl, _, rfl, _, _, rfl, rfl, .inl ⟨by decide, by decide⟩, _, _, rfl, rfl, .inl ⟨_, rfl, _, _, rfl, rfl, (by show (0 : Int) < 2147483587; decide), ?_⟩⟩
        refine ⟨_, rfl, _, _, rfl, rfl, ⟨by decide, by decide⟩, .inl ⟨_, rfl, _, rfl, _, _, rfl, rfl, by omega, ?_⟩⟩
        exact q _ _ Kp.upd (hP1 _ hl0) (fm _).1 (fm _).2
end Pf
namespace Bs
open PySem PySem.Spec PyProof.Rows L2 SX
variable {P : Program} {w : World} {K : PySem.W.Frag} {mg : Str → Option Value} {base : Heap}
/-! ### names -/
def ltr (c : Nat) : Prop := 97 ≤ c ∧ c ≤ 122
def sgn (c : Nat) : Prop := ltr c ∨ (48 ≤ c ∧ c ≤ 57) ∨ c = 95
structure Nm (l : List Nat) : Prop where
  pos : 1 ≤ l.length
  len : l.length ≤ 8
  sg : ∀ c ∈ l, sgn c
  hd : ∀ c, l.head? = some c → ltr c
def W1 : List Str := ["table", "key", "dealt", "anyhow", "copied", "zero", "scan", "where", "compute", "equal", "keep"]
def W2 : List Str := ["distinct", "group", "with", "count", "sum", "sort", "own", "split", "broadcast", "gather"]
def W3 : List Str := ["merge", "join", "semi", "anti", "union", "answer", "in", "self"]
def W29 : List Str := W1 ++ W2 ++ W3
def NameOk (x : Str) : Prop := Nm x.cps.toList ∧ x ∉ W29
def L0 : Str := "abcdefghijklmnopqrstuvwxyz"
def L1 : Str := "0123456789_"
theorem L0_c : L0.cps.toList = List.range' 97 26 := by decide +kernel
theorem L1_c : L1.cps.toList = List.range' 48 10 ++ [95] := by decide +kernel
theorem L01_c : (L0 ++ L1).cps.toList = List.range' 97 26 ++ (List.range' 48 10 ++ [95]) := by decide +kernel
theorem L0_len : L0.cps.toList.length = 26 := by decide +kernel
theorem L01_len : (L0 ++ L1).cps.toList.length = 37 := by decide +kernel
theorem L0_ltr {c : Nat} (h : c ∈ L0.cps.toList) : ltr c := by
  rw [L0_c, List.mem_range'_1] at h
  unfold ltr
  omega
theorem L01_sgn {c : Nat} (h : c ∈ (L0 ++ L1).cps.toList) : sgn c := by
  rw [L01_c, List.mem_append, List.mem_append, List.mem_range'_1, List.mem_range'_1, List.mem_singleton] at h
  unfold sgn ltr
  omega
theorem inV_str (x : Str) (ys : List Str) : inV (.str x) (ys.map V.str) = decide (x ∈ ys) := by
  unfold inV
  induction ys with
  | nil => rfl
  | cons y r ih =>
    rw [List.map_cons, List.any_cons, ih]
    have e : eqV (.str y) (.str x) = decide (x = y) := by
      unfold eqV
      by_cases h : x = y
      · subst h; simp
      · have h' : ¬ y = x := fun q => h q.symm
        simp [h, h']
    rw [e]
    simp
theorem flat_str (ys : List Str) : (ys.map V.str).all flatV = true := by
  rw [List.all_map, List.all_eq_true]
  intro x _
  rfl
def spWords : Sp := fun vs H Q _ => vs = [] ∧ ∀ (l : Addr) (H' : Hp), H l = none → Same H H' → H' l = some (.lst (W29.map V.str)) → Q (.ref l) H'
end Bs
namespace Pf
open PySem PySem.Spec PyProof.Rows L2 Bs SX
variable {P : Program} {w : World} {K : PySem.W.Frag} {mg : Str → Option Value} {base : Heap}
abbrev N_Lwords : List Str := ["_law_words_here"]
theorem sc_Lwords : FnScope N_Lwords [] (defScope s_Lwords) := ⟨rfl, rfl, rfl, by decide +kernel, rfl, by decide +kernel, by decide +kernel⟩
theorem c_Lwords (T : Tx K mg) : C8.Cal P w K mg base 1 "_law_words" spWords [] := by
  obtain ⟨fd, F⟩ := f_Lwords T
  refine mkCal F (g_law_words T) (F.bindsN fun _ _ _ _ _ _ us hl => match us, hl with | [], _ => rfl) .nil sc_Lwords (fun vs H Q E h => ?_) (fun cdv A outer s H vs Q E hr h => ?_)
  · obtain ⟨rfl, _⟩ := h
    rfl
  obtain ⟨rfl, q⟩ := h
  refine ⟨_, (pss_cons (ps_set (i := 0) sc_Lwords.nd rfl (Or.inl rfl) (pe_lst (pa_cons pe_str (pa_cons pe_str (pa_cons pe_str (pa_cons pe_str (pa_cons pe_str (pa_cons pe_str (pa_cons pe_str (pa_cons pe_str (pa_cons pe_str (pa_cons pe_str (pa_cons pe_str pa_nil)))))))))))))
    (pss_cons (ps_set (i := 0) sc_Lwords.nd rfl (Or.inl rfl) (pe_op op_cat (pv 0) (pe_lst (pa_cons pe_str (pa_cons pe_str (pa_cons pe_str (pa_cons pe_str (pa_cons pe_str (pa_cons pe_str (pa_cons pe_str (pa_cons pe_str (pa_cons pe_str (pa_cons pe_str pa_nil)))))))))))))
    (pss_one (ps_ret (pe_op op_cat (pv 0) (pe_lst (pa_cons pe_str (pa_cons pe_str (pa_cons pe_str (pa_cons pe_str (pa_cons pe_str (pa_cons pe_str (pa_cons pe_str (pa_cons pe_str pa_nil)))))))))))))), ?_⟩
  refine ⟨(by show 11 ≤ sizeLine; decide), fun l1 h1 => ?_⟩
  refine ⟨_, rfl, (by show 10 ≤ sizeLine; decide), fun l2 h2 => ?_⟩
  refine ⟨_, _, _, _, rfl, rfl, (by rw [upd_ne (ne_of_none (H := upd H l1 _) upd_same h2)]; exact upd_same), upd_same, (by show 21 ≤ sizeLine; decide), fun l3 h3 => ?_⟩
  refine ⟨_, rfl, (by show 8 ≤ sizeLine; decide), fun l4 h4 => ?_⟩
  refine ⟨_, _, _, _, rfl, rfl, (by rw [upd_ne (ne_of_none (H := upd _ l3 _) upd_same h4)]; exact upd_same), upd_same, (by show 29 ≤ sizeLine; decide), fun l5 h5 => ?_⟩
  refine q l5 _ ?_ (Same.new (Same.new (Same.new (Same.new (Same.new (Same.refl H) h1) h2) h3) h4) h5) upd_same
  exact (Same.new (Same.new (Same.new (Same.new (Same.refl H) h1) h2) h3) h4).free h5
end Pf
namespace Bs
open PySem PySem.Spec PyProof.Rows L2 SX
variable {P : Program} {w : World} {K : PySem.W.Frag} {mg : Str → Option Value} {base : Heap}
def spNames (K : PySem.W.Frag) : Sp := fun vs H Q _ => ∃ (p : Addr) (n m : Nat), vs = [.ref p, .int m] ∧ Pen K H p n ∧ n ≤ 900000 ∧ m ≤ 12 ∧
  ∀ (l : Addr) (ws : List Str) (H' : Hp), Kp p H H' → H l = none → Pen K H' p (n + 15) → H' l = some (.lst (ws.map V.str)) → ws.length = m → (∀ x ∈ ws, NameOk x) → ws.Nodup → Q (.ref l) H'
theorem joinL_nil : ∀ ys : List (List Nat), TL.joinL [] ys = ys.flatten
  | [] => rfl
  | [p] => by simp [TL.joinL]
  | p :: q :: r => by
    rw [TL.joinL, joinL_nil (q :: r)]
    simp
theorem ones {ys : List (List Nat)} (h : ∀ y ∈ ys, ∃ c, y = [c] ∧ sgn c) : ys.flatten.length = ys.length ∧ ∀ c ∈ ys.flatten, sgn c := by
  induction ys with
  | nil => exact ⟨rfl, fun c hc => by cases hc⟩
  | cons y r ih =>
    obtain ⟨c, rfl, hc⟩ := h y List.mem_cons_self
    obtain ⟨i1, i2⟩ := ih fun y hy => h y (List.mem_cons_of_mem _ hy)
    rw [List.flatten_cons]
    refine ⟨by simp [i1], fun d hd => ?_⟩
    rcases List.mem_append.mp hd with hd | hd
    · rw [List.mem_singleton.mp hd]; exact hc
    · exact i2 d hd
theorem sum_ones {ys : List (List Nat)} (h : ∀ y ∈ ys, ∃ c, y = [c] ∧ sgn c) : ((ys.map S).map (fun x => x.length)).sum = ys.length := by
  induction ys with
  | nil => rfl
  | cons y r ih =>
    obtain ⟨c, rfl, hc⟩ := h y List.mem_cons_self
    rw [List.map_cons, List.map_cons, List.sum_cons, ih fun y hy => h y (List.mem_cons_of_mem _ hy), S_len, List.length_cons, List.length_cons]
    simp
    omega
theorem nodup_sub {α : Type} [DecidableEq α] : ∀ {l m : List α}, l.Nodup → (∀ x ∈ l, x ∈ m) → l.length ≤ m.length
  | [], _, _, _ => Nat.zero_le _
  | x :: r, m, h, s => by
    have hx : x ∈ m := s x List.mem_cons_self
    obtain ⟨h1, h2⟩ := List.nodup_cons.mp h
    have ih := nodup_sub (m := m.erase x) h2 fun y hy => by
      have ne : y ≠ x := fun q => h1 (by rw [← q]; exact hy)
      exact (List.mem_erase_of_ne ne).mpr (s y (List.mem_cons_of_mem _ hy))
    rw [List.length_erase_of_mem hx] at ih
    have : 0 < m.length := List.length_pos_of_mem hx
    rw [List.length_cons]
    omega
/-- the word that is tried at turn t for the name i -/
def cand (i t : Nat) : Str := S ([119] ++ TL.numL i ++ [95] ++ TL.numL t)
theorem cand_inj {i t u : Nat} (h : cand i t = cand i u) : t = u := by
  have e := S_inj h
  exact TL.numL_inj (List.append_cancel_left e)
theorem cand_nm {i t : Nat} (hi : i < 100) (ht : t < 100) : Nm (cand i t).cps.toList := by
  have e : (cand i t).cps.toList = [119] ++ TL.numL i ++ [95] ++ TL.numL t := rfl
  have l1 : (TL.numL i).length ≤ 2 := TL.numL_len (by decide) (by omega)
  have l2 : (TL.numL t).length ≤ 2 := TL.numL_len (by decide) (by omega)
  rw [e]
  refine ⟨by simp, by simp only [List.length_append, List.length_singleton]; omega, fun c hc => ?_, fun c hc => ?_⟩
  · rw [List.mem_append, List.mem_append, List.mem_append, List.mem_singleton, List.mem_singleton] at hc
    have d1 := TL.numL_digits i c
    have d2 := TL.numL_digits t c
    unfold sgn ltr
    rcases hc with ((h | h) | h) | h
    · omega
    · have := d1 h; omega
    · omega
    · have := d2 h; omega
  · have e2 : c = 119 := by
      have e3 : ([119] ++ TL.numL i ++ [95] ++ TL.numL t).head? = some 119 := rfl
      rw [e3] at hc
      exact (Option.some.inj hc).symm
    unfold ltr
    omega
theorem cand_few {ws : List Str} {i n : Nat} (h : ∀ t, t < n → cand i t ∈ ws) : n ≤ ws.length := by
  have e : ((List.range n).map (cand i)).length = n := by rw [List.length_map, List.length_range]
  rw [← e]
  refine nodup_sub ?_ fun x hx => ?_
  · refine List.Pairwise.map _ (fun a b hab q => hab (cand_inj q)) (List.nodup_range)
  · obtain ⟨t, ht, rfl⟩ := List.mem_map.mp hx
    exact h t (List.mem_range.mp ht)
theorem str_nat (n : Nat) : Str.ofString (toString ((n : Nat) : Int)) = S (TL.numL n) := num_S n
theorem cand_eq (i t : Nat) : ("w" : Str) ++ Str.ofString (toString ((i : Nat) : Int)) ++ ("_" : Str) ++ Str.ofString (toString ((t : Nat) : Int)) = cand i t := by
  have e1 : ("w" : Str) = S [119] := by decide +kernel
  have e2 : ("_" : Str) = S [95] := by decide +kernel
  rw [e1, e2, str_nat, str_nat, S_cat, S_cat, S_cat]
  rfl
/-! what a reading asks grows with what is wanted -/
def MonT (t : TT) : Prop := ∀ σ H (Q Q' : Bool → Hp → Prop), (∀ b H1, Q b H1 → Q' b H1) → t σ H Q → t σ H Q'
def MonE (t : TE) : Prop := ∀ σ H (Q Q' : VK), (∀ v H1, Q v H1 → Q' v H1) → t σ H Q → t σ H Q'
def MonR (r : R2) : Prop := ∀ x y H (Q Q' : VK), (∀ v H1, Q v H1 → Q' v H1) → r x y H Q → r x y H Q'
theorem MonT.or {t u : TT} (a : MonT t) (b : MonT u) : MonT (tOr t u) := fun σ H Q Q' h => a σ H _ _ fun c H1 => by
  cases c with
  | true => exact fun q => h _ _ q
  | false => exact fun q => b σ H1 _ _ h q
theorem MonT.and {t u : TT} (a : MonT t) (b : MonT u) : MonT (tAnd t u) := fun σ H Q Q' h => a σ H _ _ fun c H1 => by
  cases c with
  | true => exact fun q => b σ H1 _ _ h q
  | false => exact fun q => h _ _ q
theorem MonE.test {t : TE} (a : MonE t) : MonT (tTest t) := fun σ H Q Q' h => a σ H _ _ fun v H1 ⟨k, e, q⟩ => ⟨k, e, h _ _ q⟩
theorem MonE.op {r : R2} {t u : TE} (hr : MonR r) (a : MonE t) (b : MonE u) : MonE (tOp r t u) := fun σ H Q Q' h => a σ H _ _ fun x H1 => b σ H1 _ _ fun y H2 => hr x y H2 _ _ h
theorem MonE.var {i : Nat} : MonE (tVar i) := fun σ H Q Q' h ⟨v, e, q⟩ => ⟨v, e, h _ _ q⟩
theorem MonE.c {v : V} : MonE (tC v) := fun σ H Q Q' h q => h _ _ q
theorem MonR.in_ {b : Bool} : MonR (rIn K b) := fun x y H Q Q' h ⟨p, xs, e, s, f1, f2, q⟩ => ⟨p, xs, e, s, f1, f2, h _ _ q⟩
theorem MonE.words : MonE (fun _ H Q => spWords [] H Q C8.E0) := fun σ H Q Q' h ⟨e, q⟩ => ⟨e, fun l H' a b c => h _ _ (q l H' a b c)⟩
theorem nm_mid {bl : List Nat} {k c : Nat} (h : Nm bl) (hk : k < bl.length) (hc : ltr c) : Nm (bl.take k ++ [c] ++ bl.drop (k + 1)) := by
  refine ⟨by simp only [List.length_append, List.length_take, List.length_drop, List.length_singleton]; omega, ?_, fun d hd => ?_, fun d hd => ?_⟩
  · simp only [List.length_append, List.length_take, List.length_drop, List.length_singleton]
    have := h.len
    omega
  · rw [List.mem_append, List.mem_append, List.mem_singleton] at hd
    rcases hd with (hd | hd) | hd
    · exact h.sg d (List.mem_of_mem_take hd)
    · rw [hd]; exact .inl hc
    · exact h.sg d (List.mem_of_mem_drop hd)
  · cases k with
    | zero =>
      have e : (bl.take 0 ++ [c] ++ bl.drop (0 + 1)).head? = some c := rfl
      rw [e] at hd
      rw [← Option.some.inj hd]; exact hc
    | succ k =>
      cases bl with
      | nil => exact absurd hk (by simp)
      | cons b r =>
        have e : ((b :: r).take (k + 1) ++ [c] ++ (b :: r).drop (k + 1 + 1)).head? = some b := rfl
        rw [e] at hd
        exact h.hd d hd
def qq : List Nat := [113, 49, 95, 120, 113, 49, 95, 120]
theorem qq_eq : (⟨(List.replicate (2 : Int).toNat ("q1_x" : Str).cps.toList).flatten.toArray⟩ : Str) = S qq := by decide +kernel
theorem nm_pre {bl : List Nat} {j : Nat} (h : Nm bl) (hj : j < 8) : Nm ((bl ++ qq).take (j + 1)) := by
  have hl := h.pos
  have l8 : (bl ++ qq).length = bl.length + 8 := by rw [List.length_append]; rfl
  refine ⟨?_, ?_, fun d hd => ?_, fun d hd => ?_⟩
  · rw [List.length_take, l8]; omega
  · rw [List.length_take, l8]; omega
  · rcases List.mem_append.mp (List.mem_of_mem_take hd) with q | q
    · exact h.sg d q
    · unfold qq at q
      simp only [List.mem_cons, List.mem_nil_iff, or_false] at q
      unfold sgn ltr
      omega
  · cases bl with
    | nil => exact absurd hl (by simp)
    | cons b r =>
      have e : ((b :: r ++ qq).take (j + 1)).head? = some b := rfl
      rw [e] at hd
      exact h.hd d hd
theorem nm_sig {bl : List Nat} {k c : Nat} (h : Nm bl) (hk : k < bl.length) (hc : ltr c) : Nm ([c] ++ bl.take k) := by
  refine ⟨by simp, ?_, fun d hd => ?_, fun d hd => ?_⟩
  · simp only [List.length_append, List.length_take, List.length_singleton]
    have := h.len
    omega
  · rw [List.mem_append, List.mem_singleton] at hd
    rcases hd with hd | hd
    · rw [hd]; exact .inl hc
    · exact h.sg d (List.mem_of_mem_take hd)
  · have e : ([c] ++ bl.take k).head? = some c := rfl
    rw [e] at hd
    rw [← Option.some.inj hd]; exact hc
theorem log_small {i : Nat} (h : i < 1000) : ((i : Nat) : Int).natAbs.log2 < 1920 := by
  rw [Int.natAbs_natCast]
  exact Nat.lt_of_le_of_lt (Nat.log2_le_self _) (by omega)
theorem len_nat {i : Nat} (h : i < 100) : (Str.ofString (toString ((i : Nat) : Int))).length ≤ 2 := by
  rw [str_nat, S_len]
  exact TL.numL_len (by decide) (by omega)
end Bs
namespace Pf
open PySem PySem.Spec PyProof.Rows L2 Bs SX
variable {P : Program} {w : World} {K : PySem.W.Frag} {mg : Str → Option Value} {base : Heap}
abbrev N_Lnames : List Str := ["_law_pen_here", "_law_many", "_law_letters", "_law_signs", "_law_base", "_law_at", "_law_first", "_law_step", "_law_way", "_law_found", "_law_k", "_law_sign", "_law_name", "_law_turn"]
theorem sc_Lnames : FnScope N_Lnames ["_law_pen_here", "_law_many"] (defScope s_Lnames) := ⟨rfl, rfl, rfl, by decide +kernel, rfl, by decide +kernel, by decide +kernel⟩
theorem c_Lnames (T : Tx K mg) : C8.Cal P w K mg base 3 "_law_names" (spNames K) [] := by
  obtain ⟨fd, F⟩ := f_Lnames T
  have c_Ldraw := c_Ldraw (P := P) (w := w) (base := base) T
  have c_Lwords := c_Lwords (P := P) (w := w) (base := base) T
  refine mkCal F (g_law_names T) (F.bindsN fun _ _ _ _ _ _ us hl => match us, hl with | [_, _], _ => rfl) .nil sc_Lnames (fun vs H Q E h => ?_) (fun cdv A outer s H vs Q E hr h => ?_)
  · obtain ⟨p, n, m, rfl, _⟩ := h
    rfl
  obtain ⟨p, n, m, rfl, hP, hn, hm, q⟩ := h
  have hu := hu_of hr
  refine ⟨_, (pss_cons (ps_set (i := 2) sc_Lnames.nd rfl (Or.inl rfl) pe_str)
    (pss_cons (ps_set (i := 3) sc_Lnames.nd rfl (Or.inr rfl) (pe_op op_add_str (pv 2) pe_str))
    (pss_cons (ps_set (i := 4) sc_Lnames.nd rfl (Or.inl rfl) (pe_op op_add_str (pe_ix ix_str (pv 2) (C8.pe_c c_Ldraw hr (by first | decide | omega) rfl (pa_cons (pv 0) (pa_cons pe_int pa_nil))) (fun _ _ => rfl)) (pe_join pe_str (pe_lc (own := [("_law_k", 10)]) rfl sc_Lnames.nd (pi_range1 (by rfl) (z_range T) (pa_cons (C8.pe_c c_Ldraw hr (by first | decide | omega) rfl (pa_cons (pv 0) (pa_cons pe_int pa_nil))) pa_nil)) (blkOk_by (N := N_Lnames) (sc := defScope s_Lnames) (by decide +kernel)) (fun _ _ _ _ _ => (pg_name (i := 10) sc_Lnames.nd rfl (Or.inl rfl))) (fun _ _ _ _ _ => pts_nil) (fun _ _ _ _ _ => (pe_ix ix_str (pv 3) (C8.pe_c c_Ldraw hr (by first | decide | omega) rfl (pa_cons (pv 0) (pa_cons pe_int pa_nil))) (fun _ _ => rfl)))))))
    (pss_cons (ps_set (i := 5) sc_Lnames.nd rfl (Or.inl rfl) (C8.pe_c c_Ldraw hr (by first | decide | omega) rfl (pa_cons (pv 0) (pa_cons (pe_callB call_len_str (by rfl) (z_len T) boot_len (pa_cons (pv 4) pa_nil)) pa_nil))))
    (pss_cons (ps_set (i := 6) sc_Lnames.nd rfl (Or.inl rfl) (C8.pe_c c_Ldraw hr (by first | decide | omega) rfl (pa_cons (pv 0) (pa_cons pe_int pa_nil))))
    (pss_cons (ps_set (i := 7) sc_Lnames.nd rfl (Or.inl rfl) (pe_ix (ix_listK (K := K) rfl) (pe_lst (pa_cons pe_int (pa_cons pe_int (pa_cons pe_int (pa_cons pe_int (pa_cons pe_int (pa_cons pe_int (pa_cons pe_int (pa_cons pe_int pa_nil))))))))) (C8.pe_c c_Ldraw hr (by first | decide | omega) rfl (pa_cons (pv 0) (pa_cons pe_int pa_nil))) (fun _ _ => rfl)))
    (pss_cons (ps_set (i := 8) sc_Lnames.nd rfl (Or.inl rfl) (C8.pe_c c_Ldraw hr (by first | decide | omega) rfl (pa_cons (pv 0) (pa_cons pe_int pa_nil))))
    (pss_cons (ps_set (i := 9) sc_Lnames.nd rfl (Or.inl rfl) (pe_lst pa_nil))
    (pss_cons (ps_for PassesOwn.never rfl (pi_range1 (by rfl) (z_range T) (pa_cons (pv 1) pa_nil)) (pg_name (i := 10) sc_Lnames.nd rfl (Or.inl rfl)) (pss_cons (ps_set (i := 11) sc_Lnames.nd rfl (Or.inl rfl) (pe_ix ix_str (pv 2) (pe_op op_mod (pe_callTy call_int1 (by rfl) (z_int T) boot_int (pa_cons (pe_op op_add (pv 6) (pe_op op_mul (pv 7) (pv 10))) pa_nil)) pe_int) (fun _ _ => rfl)))
    (pss_cons (ps_set (i := 12) sc_Lnames.nd rfl (Or.inl rfl) (pe_op op_add_str (pe_op op_add_str (pe_slice C8.sl_txt (pv 4) po_none (po_some (pv 5))) (pv 11)) (pe_slice C8.sl_txt (pv 4) (po_some (pe_op op_add (pv 5) pe_int)) po_none)))
    (C8.pss_cut (ps_if (pt_cmpR op_eq (pv 8) pe_int (nomark _)) (pss_one (ps_set (i := 12) sc_Lnames.nd rfl (Or.inl rfl) (pe_slice C8.sl_txt (pe_op op_add_str (pv 4) (pe_op op_rep_str pe_str pe_int)) po_none (po_some (pe_op op_add (pe_op op_mod (pe_callTy call_int1 (by rfl) (z_int T) boot_int (pa_cons (pv 10) pa_nil)) pe_int) pe_int))))) pss_nil)
    (C8.pss_cut (ps_if (pt_cmpR op_eq (pv 8) pe_int (nomark _)) (pss_one (ps_set (i := 12) sc_Lnames.nd rfl (Or.inl rfl) (pe_op op_add_str (pv 11) (pe_slice C8.sl_txt (pv 4) po_none (po_some (pe_op op_modN (pe_callTy call_int1 (by rfl) (z_int T) boot_int (pa_cons (pv 10) pa_nil)) (pe_callB call_len_str (by rfl) (z_len T) boot_len (pa_cons (pv 4) pa_nil)))))))) pss_nil)
    (pss_cons (ps_set (i := 13) sc_Lnames.nd rfl (Or.inl rfl) pe_int)
    (pss_cons (ps_while PassesOwn.never (PW.pt (pw_or (pt_cmpR (op_in_seqK (K := K) rfl) (pv 12) (pv 9) (by rfl)) (pw_or1 (pt_cmpR (op_in_seqK (K := K) rfl) (pv 12) (pe_c0 c_Lwords hr (by first | decide | omega) rfl) (by rfl))))) (pss_cons (ps_set (i := 12) sc_Lnames.nd rfl (Or.inl rfl) (pe_op op_add_str (pe_op op_add_str (pe_op op_add_str pe_str (pe_callTy call_str_int (by rfl) (z_str T) boot_str (pa_cons (pv 10) pa_nil))) pe_str) (pe_callTy call_str_int (by rfl) (z_str T) boot_str (pa_cons (pv 13) pa_nil))))
    (pss_one (ps_set (i := 13) sc_Lnames.nd rfl (Or.inl rfl) (pe_op op_add (pv 13) pe_int)))))
    (pss_one (ps_expr (pe_bm PySem.F.plainAttrs_list PySem.F.slot_list_append PySem.F.type_list_append mt_append (pv 9) (pa_cons (pv 12) pa_nil)))))))))))
    (pss_one (ps_ret (pv 9)))))))))))), ?_⟩
  refine ⟨_, rfl, L0, L1, rfl, rfl, by decide +kernel, ?_⟩
  refine ⟨_, rfl, _, rfl, p, n, 26, rfl, hP, by omega, by decide, by decide, fun d1 H1 k1 P1 a1 b1 => ?_⟩
  obtain ⟨c1, hc1, m1, _⟩ := atI_of (xs := L0.cps.toList) a1 (by rw [L0_len]; exact b1)
  refine ⟨L0, d1, c1, rfl, rfl, by decide +kernel, hc1, ⟨_, rfl⟩, ?_⟩
  refine ⟨_, rfl, p, n + 1, 8, rfl, P1, by omega, by decide, by decide, fun d2 H2 k2 P2 a2 b2 => ⟨d2, rfl, by omega, by omega, fun D hD => ?_⟩⟩
  have hDp := P2.ne hD
  have hpD := P2.there
  have k12 := k1.trans k2
  have hD0 := k12.free hD hpD
  refine lc_range (lo := 0) (n := d2.toNat) (fun i H' => ∃ ys : List (List Nat), H' D = some (.lst ((ys.map S).map V.str)) ∧ ys.length = i ∧ (∀ y ∈ ys, ∃ c, y = [c] ∧ sgn c) ∧ Kp p H H' ∧ Pen K H' p (n + 2 + i))
    ⟨[], upd_same, rfl, (fun y hy => by cases hy), k12.loc hD0, (P2.upd hD)⟩ ?_ ?_
  · rintro i H' hi ⟨ys, hL, rfl, hy, kp, hP'⟩
    refine ⟨rfl, ?_⟩
    unfold tYes
    refine iteT ?_
    refine ⟨_, rfl, _, rfl, p, _, 37, rfl, hP', by omega, by decide, by decide, fun d3 H3 k3 P3 a3 b3 => ?_⟩
    obtain ⟨c3, hc3, m3, _⟩ := atI_of (xs := (L0 ++ L1).cps.toList) a3 (by rw [L01_len]; exact b3)
    have hL3 := k3 _ _ hL hDp
    refine ⟨L0 ++ L1, d3, c3, rfl, rfl, by decide +kernel, hc3, _, hL3, ?_, ys ++ [[c3]], ?_, ?_, ?_, ?_, ?_⟩
    · rw [List.length_map, List.length_map]
      have : sizeLine = 16777216 := rfl
      omega
    · rw [upd_same, List.map_append, List.map_append]
      rfl
    · rw [List.length_append]; rfl
    · intro y h
      rcases List.mem_append.mp h with h | h
      · exact hy y h
      · exact ⟨c3, List.mem_singleton.mp h, L01_sgn m3⟩
    · exact (kp.trans k3).loc hD0
    · exact P3.put hL3
  rintro H3 ⟨ys, hL, hlen, hy, kp, hP3⟩
  obtain ⟨o1, o2⟩ := ones hy
  have e0 : ("" : Str) = S [] := by decide +kernel
  have ej : Txt.join ("" : Str) (ys.map S) = S ys.flatten := by rw [e0, join_S, joinL_nil]
  refine ⟨"", D, ys.map S, rfl, rfl, .inl (SqL.of hL), ?_, ?_⟩
  · have e1 : (("" : Str)).length = 0 := by decide +kernel
    rw [sum_ones hy, List.length_map, e1]
    omega
  refine ⟨⟨#[c1]⟩, Txt.join ("" : Str) (ys.map S), rfl, rfl, ?_, ?_⟩
  · have : sizeLine = 16777216 := rfl
    have e1 : (⟨#[c1]⟩ : Str).length = 1 := rfl
    rw [ej, e1, S_len, o1]
    omega
  have eB : (⟨#[c1]⟩ : Str) ++ Txt.join ("" : Str) (ys.map S) = S (c1 :: ys.flatten) := by
    rw [ej]
    exact S_cat [c1] _
  have nB : Nm (c1 :: ys.flatten) := ⟨by simp, by rw [List.length_cons, o1]; omega, fun c hc => by
    rcases List.mem_cons.mp hc with h | h
    · rw [h]; exact .inl (L0_ltr m1)
    · exact o2 c h, fun c hc => by
    rw [List.head?_cons] at hc
    rw [← Option.some.inj hc]; exact L0_ltr m1⟩
  rw [eB]
  generalize c1 :: ys.flatten = bl at nB
  have hP4 := hP3.mono (show n + 2 + d2.toNat ≤ n + 10 by omega)
  clear hy o1 o2 ej eB hL hP3 hc1 m1
  have sl : sizeLine = 16777216 := rfl
  refine ⟨_, rfl, _, rfl, S bl, rfl, by rw [S_len]; have := nB.len; omega, p, n + 10, ((S bl).length : Nat), rfl, hP4, by omega, by rw [S_len]; have := nB.pos; omega, by rw [S_len]; have := nB.len; omega, fun at_ H4 k4 P4 a4 b4 => ?_⟩
  rw [S_len] at b4
  refine ⟨_, rfl, p, _, 26, rfl, P4, by omega, by decide, by decide, fun fi H5 k5 P5 a5 b5 => ?_⟩
  refine ⟨by show 8 ≤ sizeLine; decide, fun l hl => ?_⟩
  refine ⟨_, rfl, p, _, 8, rfl, P5.upd hl, by omega, by decide, by decide, fun d6 H6 k6 P6 a6 b6 => ?_⟩
  have hlp := P5.ne hl
  obtain ⟨st, hst, mst⟩ := atI_int (ns := [1, 3, 5, 7, 9, 11, 15, 17]) a6 b6
  have bst : 0 ≤ st ∧ st ≤ 17 := by
    simp only [List.mem_cons, List.mem_nil_iff, or_false] at mst
    omega
  refine ⟨l, ([1, 3, 5, 7, 9, 11, 15, 17] : List Int).map V.int, d6, .int st, rfl, rfl, SqL.of (k6 l _ upd_same hlp), hst, ?_⟩
  refine ⟨_, rfl, p, _, 3, rfl, P6, by omega, by decide, by decide, fun wy H7 k7 P7 a7 b7 => ?_⟩
  have k37 : Kp p H H7 := ((((kp.trans k4).trans k5).new hl).trans k6).trans k7
  refine ⟨Nat.zero_le _, fun f hf => ?_⟩
  have hf0 := k37.free hf P7.there
  have hfp := P7.ne hf
  have P7' : Pen K H7 p (n + 14) := P7.mono (by omega)
  refine ⟨_, rfl, (m : Int), rfl, by omega, by omega, ?_⟩
  refine for_range (lo := 0) (n := ((m : Nat) : Int).toNat) (fun i σ H' => ∃ (ws : List Str) (k c s t : Option V), σ = [some (.ref p), some (.int m), some (.str L0), some (.str (L0 ++ L1)), some (.str (S bl)), some (.int at_), some (.int fi), some (.int st), some (.int wy), some (.ref f), k, c, s, t] ∧
      H' f = some (.lst (ws.map V.str)) ∧ ws.length = i ∧ (∀ x ∈ ws, NameOk x) ∧ ws.Nodup ∧ Kp p H H' ∧ Pen K H' p (n + 14))
    ⟨[], none, none, none, none, rfl, upd_same, rfl, (fun x hx => by cases hx), List.nodup_nil, k37.loc hf0, P7'.upd hf⟩ ?_ ?_
  · rintro i σ H' hi ⟨ws, k, c, s, t, rfl, hL, rfl, hok, hnd, kp', hP'⟩
    have hi12 : ws.length < 12 := by omega
    have lb := nB.len
    have lp := nB.pos
    rw [Int.zero_add]
    obtain ⟨ch, hch, mch, _⟩ := atI_of (xs := L0.cps.toList) (k := (fi + st * ((ws.length : Nat) : Int)) % 26) (by omega) (by rw [L0_len]; omega)
    have lch := L0_ltr mch
    have hat : at_.toNat < bl.length := by omega
    refine ⟨_, rfl, _, rfl, _, rfl, _, rfl, _, _, rfl, rfl, .inl ⟨by omega, by omega⟩, _, _, rfl, rfl, .inl ⟨_, rfl, _, _, rfl, rfl, (by show (0 : Int) < 26; decide), L0, _, ch, rfl, rfl, by decide +kernel, hch, ?_⟩⟩
    have e1 := slice_to (a := bl) a4
    have e2 := slice_from (a := bl) (show 0 ≤ at_ + 1 by omega)
    refine ⟨_, rfl, _, rfl, _, rfl, S bl, rfl, by rw [S_len]; omega, ?_⟩
    rw [e1]
    refine ⟨_, rfl, S (bl.take at_.toNat), S [ch], rfl, rfl, by rw [S_len, S_len, List.length_take, List.length_singleton]; omega, ?_⟩
    refine ⟨_, rfl, _, rfl, _, _, rfl, rfl, _, rfl, S bl, rfl, by rw [S_len]; omega, ?_⟩
    rw [e2]
    refine ⟨S (bl.take at_.toNat) ++ S [ch], S (bl.drop (at_ + 1).toNat), rfl, rfl, by rw [S_cat, S_len, S_len, List.length_append, List.length_take, List.length_drop, List.length_singleton]; omega, ?_⟩
    have ew : S (bl.take at_.toNat) ++ S [ch] ++ S (bl.drop (at_ + 1).toNat) = S (bl.take at_.toNat ++ [ch] ++ bl.drop (at_.toNat + 1)) := by
      rw [S_cat, S_cat, show (at_ + 1).toNat = at_.toNat + 1 by omega]
    rw [ew]
    have nw := nm_mid nB hat lch
    generalize bl.take at_.toNat ++ [ch] ++ bl.drop (at_.toNat + 1) = w0 at nw
    -- if way == 1
    refine ⟨fun σ' H'' => ∃ wl, Nm wl ∧ σ' = [some (.ref p), some (.int m), some (.str L0), some (.str (L0 ++ L1)), some (.str (S bl)), some (.int at_), some (.int fi), some (.int st), some (.int wy), some (.ref f), some (.int (ws.length : Nat)), some (.str (S [ch])), some (.str (S wl)), t] ∧ H' = H'', ?_, ?_⟩
    · refine ⟨_, rfl, rfl, _, rfl, ite2 (fun _ => ?_) (fun _ => ⟨w0, nw, rfl, rfl⟩)⟩
      refine ⟨_, rfl, "q1_x", 2, rfl, rfl, by decide, by decide, by decide +kernel, ?_⟩
      rw [qq_eq]
      refine ⟨S bl, S qq, rfl, rfl, by rw [S_len, S_len]; show bl.length + 8 ≤ sizeLine; omega, ?_⟩
      refine ⟨_, rfl, .inl ⟨_, rfl, _, _, rfl, rfl, (by show (0 : Int) < 8; decide), _, _, rfl, rfl, _, rfl, S bl ++ S qq, rfl, by rw [S_cat, S_len, List.length_append]; show bl.length + 8 ≤ sizeLine; omega, ?_⟩⟩
      rw [S_cat bl qq, slice_to (show 0 ≤ ((ws.length : Nat) : Int) % 8 + 1 by omega)]
      have e3 : (((ws.length : Nat) : Int) % 8 + 1).toNat = (ws.length % 8) + 1 := by omega
      rw [e3]
      exact ⟨_, nm_pre nB (Nat.mod_lt _ (by decide)), rfl, rfl⟩
    rintro σ' H'' ⟨w1, n1, rfl, rfl⟩
    -- if way == 2
    refine ⟨fun σ' H'' => ∃ wl, Nm wl ∧ σ' = [some (.ref p), some (.int m), some (.str L0), some (.str (L0 ++ L1)), some (.str (S bl)), some (.int at_), some (.int fi), some (.int st), some (.int wy), some (.ref f), some (.int (ws.length : Nat)), some (.str (S [ch])), some (.str (S wl)), t] ∧ H' = H'', ?_, ?_⟩
    · refine ⟨_, rfl, rfl, _, rfl, ite2 (fun _ => ?_) (fun _ => ⟨w1, n1, rfl, rfl⟩)⟩
      have hm := Int.fmod_nonneg_of_pos ((ws.length : Nat) : Int) (show (0 : Int) < ((S bl).length : Nat) by rw [S_len]; omega)
      have hm2 := Int.fmod_lt_of_pos ((ws.length : Nat) : Int) (show (0 : Int) < ((S bl).length : Nat) by rw [S_len]; omega)
      have hm3 : (Int.fmod ((ws.length : Nat) : Int) ((S bl).length : Nat)).toNat < bl.length := by rw [S_len] at hm2 ⊢; omega
      refine ⟨_, rfl, _, rfl, _, rfl, .inl ⟨_, rfl, _, rfl, S bl, rfl, by rw [S_len]; omega, _, _, rfl, rfl, by rw [S_len]; omega, _, rfl, S bl, rfl, by rw [S_len]; omega, ?_⟩⟩
      rw [slice_to hm]
      refine ⟨S [ch], _, rfl, rfl, by rw [S_len, S_len, List.length_take, List.length_singleton]; omega, ?_⟩
      rw [S_cat [ch] _]
      exact ⟨_, nm_sig nB hm3 lch, rfl, rfl⟩
    rintro σ' H'' ⟨w2, n2, rfl, rfl⟩
    have c29 : W29.length = 29 := rfl
    refine while_by (fun σ H2 => ∃ (tn : Nat) (x : Str), Nm x.cps.toList ∧ σ = [some (.ref p), some (.int m), some (.str L0), some (.str (L0 ++ L1)), some (.str (S bl)), some (.int at_), some (.int fi), some (.int st), some (.int wy), some (.ref f), some (.int (ws.length : Nat)), some (.str (S [ch])), some (.str x), some (.int (tn : Nat))] ∧
        H2 f = some (.lst (ws.map V.str)) ∧ Kp p H H2 ∧ Pen K H2 p (n + 14) ∧ (∀ u, u + 1 < tn → cand ws.length u ∈ ws ++ W29) ∧ (∀ u, tn = u + 1 → x = cand ws.length u))
      (fun σ _ => match (σ[13]? : Option (Option V)) with | some (some (V.int i)) => (60 - i).toNat | _ => 0)
      ⟨0, S w2, n2, rfl, hL, kp', hP', fun u hu => absurd hu (by omega), fun u hu => absurd hu (by omega)⟩ ?_ ?_
    · rintro σ H2 ⟨tn, x, nx, rfl, hL2, kp2, hP2, hs, hx⟩
      have test : ∀ (σ0 : L2.St) (R : Bool → Hp → Prop), σ0[12]? = some (some (.str x)) → σ0[9]? = some (some (.ref f)) → (∀ H3, Same H2 H3 → (x ∈ ws ++ W29 → R true H3) ∧ (x ∉ ws ++ W29 → R false H3)) →
          tOr (tTest (tOp (rIn K false) (tVar 12) (tVar 9))) (tTest (tOp (rIn K false) (tVar 12) (fun _ H Q => spWords [] H Q C8.E0))) σ0 H2 R := fun σ0 R g1 g2 hR => by
        refine ⟨_, g1, _, g2, f, _, rfl, .inl (SqL.of hL2), rfl, flat_str _, _, rfl, ?_⟩
        refine ite2 (fun c1 => ?_) (fun c1 => ?_)
        · have c2 : inV (.str x) (ws.map V.str) = true := c1
          rw [inV_str] at c2
          exact (hR H2 (Same.refl H2)).1 (List.mem_append_left _ (of_decide_eq_true c2))
        · have c2 : ¬ inV (.str x) (ws.map V.str) = true := c1
          rw [inV_str, decide_eq_true_eq] at c2
          refine ⟨_, g1, rfl, fun l3 H3 _ s3 hW => ⟨l3, _, rfl, .inl (SqL.of hW), rfl, flat_str _, _, rfl, ?_⟩⟩
          show R (inV (.str x) (W29.map V.str)) H3
          rw [inV_str]
          by_cases c3 : x ∈ W29
          · rw [decide_eq_true c3]
            exact (hR H3 s3).1 (List.mem_append_right _ c3)
          · rw [decide_eq_false c3]
            exact (hR H3 s3).2 fun q => (List.mem_append.mp q).elim c2 c3
      refine test _ _ rfl rfl fun H3 s3 => ⟨fun hin => iteT ?_, fun hout => iteF ?_⟩
      · have all : ∀ u, u < tn → cand ws.length u ∈ ws ++ W29 := fun u hu => by
          by_cases h : u + 1 < tn
          · exact hs u h
          · rw [← hx u (by omega)]; exact hin
        have few := cand_few all
        rw [List.length_append, c29] at few
        have l1 := len_nat (i := ws.length) (by omega)
        have l2 := len_nat (i := tn) (by omega)
        have lw : ("w" : Str).length = 1 := by decide +kernel
        have l_ : ("_" : Str).length = 1 := by decide +kernel
        have ap : ∀ a b : Str, (a ++ b).length = a.length + b.length := fun a b => Array.size_append
        refine ⟨_, rfl, _, rfl, log_small (by omega), _, _, rfl, rfl, by rw [lw]; omega, _, _, rfl, rfl, by rw [ap, lw, l_]; omega, ?_⟩
        refine ⟨_, rfl, _, rfl, log_small (by omega), _, _, rfl, rfl, by rw [ap, ap, lw, l_]; omega, ?_⟩
        rw [cand_eq]
        refine ⟨_, rfl, _, _, rfl, rfl, ⟨tn + 1, cand ws.length tn, cand_nm (by omega) (by omega), rfl, s3 _ _ hL2, kp2.trans (Kp.of s3), hP2.same s3, fun u hu => all u (by omega), fun u hu => by
          have : u = tn := by omega
          rw [this]⟩, ?_⟩
        show (60 - (((tn : Nat) : Int) + 1)).toNat < (60 - ((tn : Nat) : Int)).toNat
        omega
      · have hL3 := s3 _ _ hL2
        refine ⟨_, rfl, .inl ⟨rfl, _, SqL.of hL3⟩, _, rfl, f, _, _, rfl, rfl, hL3, by rw [List.length_map]; omega, ws ++ [x], _, _, _, _, rfl, ?_, by rw [List.length_append]; rfl, ?_, ?_, (kp2.trans (Kp.of s3)).loc hf0, (hP2.same s3).put hL3⟩
        · rw [upd_same, List.map_append]
          rfl
        · intro y hy
          rcases List.mem_append.mp hy with hy | hy
          · exact hok y hy
          · rw [List.mem_singleton.mp hy]
            exact ⟨nx, fun q => hout (List.mem_append_right _ q)⟩
        · rw [List.nodup_append]
          refine ⟨hnd, by simp, fun a ha b hb => ?_⟩
          rw [List.mem_singleton.mp hb]
          exact fun q => hout (List.mem_append_left _ (by rw [← q]; exact ha))
    · exact MonT.or (MonE.test (MonE.op MonR.in_ MonE.var MonE.var)) (MonE.test (MonE.op MonR.in_ MonE.var MonE.words))
  · rintro σ H' ⟨ws, k, c, s, t, rfl, hL, hlen', hok, hnd, kp', hP'⟩
    exact ⟨_, rfl, q f ws H' kp' hf0 (hP'.mono (by omega)) hL (by omega) hok hnd⟩
end Pf
namespace Bs
open PySem PySem.Spec PyProof.Rows L2 SX
variable {P : Program} {w : World} {K : PySem.W.Frag} {mg : Str → Option Value} {base : Heap}
/-! ### the part of the heap that never changes again -/
def KpO (p : Option Addr) (H H' : Hp) : Prop := ∀ b o, H b = some o → some b ≠ p → H' b = some o
structure Step (p : Option Addr) (G H G' H' : Hp) : Prop where
  gg : Same G G'
  gh : Same G' H'
  new : ∀ b, G' b ≠ none → G b ≠ none ∨ H b = none
  kp : KpO p H H'
  pp : ∀ b, some b = p → H b ≠ none → H' b ≠ none
section
variable {p : Option Addr} {G H G1 H1 G2 H2 : Hp} {q : Addr} {o : HO}
theorem Step.refl (h : Same G H) : Step p G H G H := ⟨Same.refl G, h, fun b hb => .inl hb, fun b o e _ => e, fun b _ e => e⟩
theorem Step.keep (a : Step p G H G1 H1) {b : Addr} (hb : H b ≠ none) : H1 b ≠ none := by
  by_cases e : some b = p
  · exact a.pp b e hb
  · cases eh : H b with
    | none => exact absurd eh hb
    | some o => rw [a.kp b o eh e]; exact fun z => by cases z
theorem Step.free (a : Step p G H G1 H1) {b : Addr} (hb : H1 b = none) : H b = none := by
  cases eh : H b with
  | none => rfl
  | some o => exact absurd hb (a.keep (by rw [eh]; exact fun z => by cases z))
theorem Step.trans (a : Step p G H G1 H1) (b : Step p G1 H1 G2 H2) : Step p G H G2 H2 where
  gg := a.gg.trans b.gg
  gh := b.gh
  new c hc := by
    rcases b.new c hc with h | h
    · exact a.new c h
    · exact .inr (a.free h)
  kp c o e n := b.kp c o (a.kp c o e n) n
  pp c e h := b.pp c e (a.pp c e h)
theorem Step.out (a : Step p G H G1 H1) {b : Addr} (h1 : G b = none) (h2 : H b ≠ none) : G1 b = none := by
  cases e : G1 b with
  | none => rfl
  | some o =>
    rcases a.new b (by rw [e]; exact fun z => by cases z) with h | h
    · exact absurd h1 h
    · exact absurd h h2
theorem same_none (h : Same G H) (hq : H q = none) : G q = none := h.free hq
/-- a new object that will never change -/
theorem Step.new_ (a : Step p G H G1 H1) (hq : H1 q = none) : Step p G H (upd G1 q o) (upd H1 q o) where
  gg := Same.new a.gg (same_none a.gh hq)
  gh b u e := by
    by_cases c : b = q
    · subst c; rw [upd_same] at e ⊢; exact e
    · rw [upd_ne c] at e ⊢; exact a.gh b u e
  new b hb := by
    by_cases c : b = q
    · subst c; exact .inr (a.free hq)
    · rw [upd_ne c] at hb; exact a.new b hb
  kp b u e n := by
    have h := a.kp b u e n
    rw [upd_ne (ne_of_none h hq)]; exact h
  pp b e h := by
    have z := a.pp b e h
    have c : b ≠ q := fun c => z (by rw [c]; exact hq)
    rw [upd_ne c]; exact z
/-- an object that may change stands or changes at q, which was free at the start -/
theorem Step.loc (a : Step p G H G1 H1) (hq : H q = none) (gq : G1 q = none) : Step p G H G1 (upd H1 q o) where
  gg := a.gg
  gh b u e := by rw [upd_ne (ne_of_none e gq)]; exact a.gh b u e
  new := a.new
  kp b u e n := by rw [upd_ne (ne_of_none e hq)]; exact a.kp b u e n
  pp b e h := by
    have c : b ≠ q := fun c => h (by rw [c]; exact hq)
    rw [upd_ne c]; exact a.pp b e h
/-- what stands at a local q will never change again -/
theorem Step.freeze (a : Step p G H G1 H1) (hq : H q = none) (h : H1 q = some o) (gq : G1 q = none) : Step p G H (upd G1 q o) H1 where
  gg := Same.new a.gg gq
  gh b u e := by
    by_cases c : b = q
    · subst c; rw [upd_same] at e; rw [h]; exact e
    · rw [upd_ne c] at e; exact a.gh b u e
  new b hb := by
    by_cases c : b = q
    · subst c; exact .inr hq
    · rw [upd_ne c] at hb; exact a.new b hb
  kp := a.kp
  pp := a.pp
theorem Step.same (a : Step none G H G1 H1) : Same H H1 := fun b o e => a.kp b o e (fun z => by cases z)
theorem Step.some_ {c : Addr} (a : Step none G H G1 H1) : Step (some c) G H G1 H1 := ⟨a.gg, a.gh, a.new, fun b o e _ => a.same b o e, fun b _ h => by
  cases eh : H b with
  | none => exact absurd eh h
  | some o => rw [a.same b o eh]; exact fun z => by cases z⟩
theorem Kp.step {c : Addr} (k : Kp c H H1) (h : Same G H) (gc : G c = none) (hc : H c ≠ none → H1 c ≠ none) : Step (some c) G H G H1 where
  gg := Same.refl G
  gh b o e := k b o (h b o e) (ne_of_none e gc)
  new b hb := .inl hb
  kp b o e n := k b o e (fun z => n (by rw [z]))
  pp b e h := by rw [Option.some.inj e] at h ⊢; exact hc h
theorem Step.kpc {c : Addr} (a : Step (some c) G H G1 H1) : Kp c H H1 := fun b o e n => a.kp b o e fun z => n (Option.some.inj z)
end
/-- the pen stands at p, outside of what never changes -/
structure Ps (K : PySem.W.Frag) (G H : Hp) (p : Addr) (n : Nat) : Prop where
  gh : Same G H
  out : G p = none
  pen : Pen K H p n
theorem Ps.step {G H G1 H1 : Hp} {p : Addr} {n m : Nat} (a : Ps K G H p n) (s : Step (some p) G H G1 H1) (h : Pen K H1 p m) : Ps K G1 H1 p m := ⟨s.gh, s.out a.out a.pen.there, h⟩
theorem Ps.stepN {G H G1 H1 : Hp} {p : Addr} {n : Nat} (a : Ps K G H p n) (s : Step none G H G1 H1) : Ps K G1 H1 p n := ⟨s.gh, s.out a.out a.pen.there, a.pen.same s.same⟩
theorem Ps.draw {G H H1 : Hp} {p : Addr} {n : Nat} (a : Ps K G H p n) (k : Kp p H H1) (h : Pen K H1 p (n + 1)) : Step (some p) G H G H1 ∧ Ps K G H1 p (n + 1) := by
  have s : Step (some p) G H G H1 := Kp.step k a.gh a.out fun _ => h.there
  exact ⟨s, a.step s h⟩
theorem Ps.new_ {G H : Hp} {p q : Addr} {n : Nat} {o : HO} (a : Ps K G H p n) (hq : H q = none) : Step (some p) G H (upd G q o) (upd H q o) ∧ Ps K (upd G q o) (upd H q o) p n := by
  have s : Step none G H (upd G q o) (upd H q o) := (Step.refl a.gh).new_ hq
  exact ⟨s.some_, a.stepN s⟩
theorem Ps.mono {G H : Hp} {p : Addr} {n m : Nat} (a : Ps K G H p n) (h : n ≤ m) : Ps K G H p m := ⟨a.gh, a.out, a.pen.mono h⟩
/-! ### terms -/
inductive So where
  | row | column | place | zero | func | rule
  deriving DecidableEq
def So.s : So → Str
  | .row => "row"
  | .column => "column"
  | .place => "place"
  | .zero => "zero"
  | .func => "function"
  | .rule => "rule"
inductive Mt where
  | mk (so : So) (w : List Nat) (ts : List Mt) (b : Bool)
def tx (so : So) (w : List Nat) (xs : List (List Nat)) (b : Bool) : List Nat := match so with
  | .row => if b = true then w ++ [39] else w
  | .column => xs.headD [] ++ [46] ++ w
  | .place => [64] ++ xs.headD []
  | .zero => [48]
  | .func => w ++ [40] ++ TL.joinL [44, 32] xs ++ [41]
  | .rule => w ++ [91] ++ TL.joinL [44, 32] xs ++ [93]
def Mt.txt : Mt → List Nat
  | .mk so w ts b => tx so w (ts.map Mt.txt) b
theorem Mt.txt_mk (so : So) (w : List Nat) (ts : List Mt) (b : Bool) : (Mt.mk so w ts b).txt = tx so w (ts.map Mt.txt) b := by rw [Mt.txt]
def Mt.dep : Mt → Nat
  | .mk _ _ ts _ => 1 + (ts.map Mt.dep).foldr max 0
theorem Mt.dep_mk (so : So) (w : List Nat) (ts : List Mt) (b : Bool) : (Mt.mk so w ts b).dep = 1 + (ts.map Mt.dep).foldr max 0 := by rw [Mt.dep]
theorem fold_max {l : List Nat} {x : Nat} (h : x ∈ l) : x ≤ l.foldr max 0 := by
  induction l with
  | nil => cases h
  | cons y r ih =>
    rw [List.foldr_cons]
    rcases List.mem_cons.mp h with h | h
    · rw [h]; exact Nat.le_max_left ..
    · exact Nat.le_trans (ih h) (Nat.le_max_right ..)
theorem Mt.dep_part {so : So} {w : List Nat} {ts : List Mt} {b : Bool} {t : Mt} (h : t ∈ ts) : t.dep < (Mt.mk so w ts b).dep := by
  rw [Mt.dep_mk]
  have := fold_max (List.mem_map_of_mem (f := Mt.dep) h)
  omega
/-- the law's own tuples of a term, all below what never changes -/
inductive MAt (G : Hp) : V → Mt → Prop where
  | mk {a p : Addr} {so : So} {w : List Nat} {vs : List V} {ts : List Mt} {b : Bool} (ha : G a = some (.tup [.str so.s, .str (S w), .ref p, .bl b])) (hp : G p = some (.tup vs)) (hl : vs.length = ts.length)
      (h : ∀ (i : Nat) (v : V) (t : Mt), vs[i]? = some v → ts[i]? = some t → MAt G v t) : MAt G (.ref a) (.mk so w ts b)
theorem MAt.same {G G' : Hp} (s : Same G G') : ∀ {v : V} {t : Mt}, MAt G v t → MAt G' v t := fun h => by
  induction h with
  | mk ha hp hl _ ih => exact .mk (s _ _ ha) (s _ _ hp) hl ih
/-- the program's term objects -/
def tf (so : So) (w : List Nat) (l : Addr) (b : Bool) (t : List Nat) (d : Nat) : List (Str × V) :=
  putF "_depth" (.int (d : Nat)) (putF "text" (.str (S t)) (putF "marked" (.bl b) (putF "parts" (.ref l) (putF "name" (.str (S w)) (putF "kind" (.str so.s) [])))))
inductive TAt (C : Addr) (G : Hp) : V → Mt → Prop where
  | mk {a dx l : Addr} {so : So} {w : List Nat} {vs : List V} {ts : List Mt} {b : Bool} (ha : G a = some (.ins C dx (tf so w l b (tx so w (ts.map Mt.txt) b) (1 + (ts.map Mt.dep).foldr max 0)))) (hp : G l = some (.lst vs)) (hl : vs.length = ts.length)
      (h : ∀ (i : Nat) (v : V) (t : Mt), vs[i]? = some v → ts[i]? = some t → TAt C G v t) : TAt C G (.ref a) (.mk so w ts b)
theorem TAt.same {C : Addr} {G G' : Hp} (s : Same G G') : ∀ {v : V} {t : Mt}, TAt C G v t → TAt C G' v t := fun h => by
  induction h with
  | mk ha hp hl _ ih => exact .mk (s _ _ ha) (s _ _ hp) hl ih
section
variable {so : So} {w : List Nat} {l : Addr} {b : Bool} {t : List Nat} {d : Nat}
theorem tf_depth : (tf so w l b t d).lookup ("_depth" : Str) = some (.int (d : Nat)) := by unfold tf; rw [lookup_putF, if_pos rfl]
theorem tf_text : (tf so w l b t d).lookup ("text" : Str) = some (.str (S t)) := by unfold tf; rw [lookup_putF, if_neg (by decide +kernel), lookup_putF, if_pos rfl]
theorem tf_marked : (tf so w l b t d).lookup ("marked" : Str) = some (.bl b) := by unfold tf; rw [lookup_putF, if_neg (by decide +kernel), lookup_putF, if_neg (by decide +kernel), lookup_putF, if_pos rfl]
theorem tf_parts : (tf so w l b t d).lookup ("parts" : Str) = some (.ref l) := by unfold tf; rw [lookup_putF, if_neg (by decide +kernel), lookup_putF, if_neg (by decide +kernel), lookup_putF, if_neg (by decide +kernel), lookup_putF, if_pos rfl]
theorem tf_name : (tf so w l b t d).lookup ("name" : Str) = some (.str (S w)) := by unfold tf; rw [lookup_putF, if_neg (by decide +kernel), lookup_putF, if_neg (by decide +kernel), lookup_putF, if_neg (by decide +kernel), lookup_putF, if_neg (by decide +kernel), lookup_putF, if_pos rfl]
theorem tf_kind : (tf so w l b t d).lookup ("kind" : Str) = some (.str so.s) := by unfold tf; rw [lookup_putF, if_neg (by decide +kernel), lookup_putF, if_neg (by decide +kernel), lookup_putF, if_neg (by decide +kernel), lookup_putF, if_neg (by decide +kernel), lookup_putF, if_neg (by decide +kernel), lookup_putF, if_pos rfl]
end
theorem Same.off {G H : Hp} {q : Addr} {o : HO} (s : Same G H) (h : G q = none) : Same G (upd H q o) := fun b u e => by rw [upd_ne (ne_of_none e h)]; exact s b u e
theorem max_is {l : List Nat} {m : Int} (h0 : l.map (fun (n : Nat) => (n : Int)) = [] → m = 0) (h1 : l.map (fun (n : Nat) => (n : Int)) ≠ [] → m ∈ l.map (fun (n : Nat) => (n : Int)) ∧ ∀ k ∈ l.map (fun (n : Nat) => (n : Int)), k ≤ m) : m = ((l.foldr max 0 : Nat) : Int) := by
  cases l with
  | nil => exact h0 rfl
  | cons x r =>
    obtain ⟨hm, ha⟩ := h1 (fun z => by cases z)
    obtain ⟨n, hn, rfl⟩ := List.mem_map.mp hm
    have up := fold_max hn
    have dn : (x :: r).foldr max 0 ≤ n := by
      have all : ∀ y ∈ x :: r, y ≤ n := fun y hy => by
        have := ha _ (List.mem_map_of_mem (f := fun (n : Nat) => (n : Int)) hy)
        omega
      have gen : ∀ q : List Nat, (∀ y ∈ q, y ≤ n) → q.foldr max 0 ≤ n := fun q => by
        induction q with
        | nil => intro _; exact Nat.zero_le _
        | cons z s ih =>
          intro h
          rw [List.foldr_cons]
          exact Nat.max_le.mpr ⟨h z List.mem_cons_self, ih fun y hy => h y (List.mem_cons_of_mem _ hy)⟩
      exact gen _ all
    exact congrArg (fun (n : Nat) => (n : Int)) (Nat.le_antisymm up dn)
end Bs
namespace Bs
open PySem PySem.Spec PyProof.Rows L2 SX
variable {P : Program} {w : World} {K : PySem.W.Frag} {mg : Str → Option Value} {base : Heap}
theorem q_ : ("'" : Str) = S [39] := by decide +kernel
theorem dot_ : ("." : Str) = S [46] := by decide +kernel
theorem at__ : ("@" : Str) = S [64] := by decide +kernel
theorem zero_ : ("0" : Str) = S [48] := by decide +kernel
theorem lp_ : ("(" : Str) = S [40] := by decide +kernel
theorem rp_ : (")" : Str) = S [41] := by decide +kernel
theorem lb_ : ("[" : Str) = S [91] := by decide +kernel
theorem rb_ : ("]" : Str) = S [93] := by decide +kernel
theorem cs_ : (", " : Str) = S [44, 32] := by decide +kernel
theorem em_ : (Str.empty : Str) = S [] := rfl
theorem joinL_len (s : List Nat) : ∀ xs : List (List Nat), (TL.joinL s xs).length ≤ (xs.map List.length).sum + xs.length * s.length
  | [] => by simp [TL.joinL]
  | [p] => by simp [TL.joinL]
  | p :: q :: r => by
    have ih := joinL_len s (q :: r)
    rw [TL.joinL, List.length_append, List.length_append]
    simp only [List.map_cons, List.sum_cons, List.length_cons, Nat.succ_mul] at ih ⊢
    omega
theorem sum_le {n : Nat} : ∀ {xs : List (List Nat)}, (∀ x ∈ xs, x.length ≤ n) → (xs.map List.length).sum ≤ xs.length * n
  | [], _ => by simp
  | x :: r, h => by
    have ih := sum_le (xs := r) fun y hy => h y (List.mem_cons_of_mem _ hy)
    have := h x List.mem_cons_self
    simp only [List.map_cons, List.sum_cons, List.length_cons, Nat.succ_mul]
    omega
theorem lenS (xs : List (List Nat)) : ((xs.map S).map (fun x => x.length)).sum = (xs.map List.length).sum := by rw [SX.lens]
def spText : Sp := fun vs H Q _ => ∃ (so : So) (w : List Nat) (l : Addr) (xs : List (List Nat)) (b : Bool), vs = [.str so.s, .str (S w), .ref l, .bl b] ∧ H l = some (.lst ((xs.map S).map V.str)) ∧ w.length ≤ 8 ∧ xs.length ≤ 3 ∧
  (∀ x ∈ xs, x.length ≤ 600000) ∧ (so = .column ∨ so = .place → xs ≠ []) ∧ Q (.str (S (tx so w xs b))) H
end Bs
namespace Pf
open PySem PySem.Spec PyProof.Rows L2 Bs SX
variable {P : Program} {w : World} {K : PySem.W.Frag} {mg : Str → Option Value} {base : Heap}
local macro_rules | `(tactic| walk_at "no") => `(tactic| refine ite2 (fun c => absurd (V.str.inj (of_decide_eq_true c)) (by decide +kernel)) (fun _ => ?_))
local macro_rules | `(tactic| walk_at "yes") => `(tactic| refine ite2 (fun _ => ?_) (fun c => absurd (decide_eq_true rfl) c))
abbrev N_text_of : List Str := ["kind", "name", "parts", "marked", "inside"]
theorem sc_text_of : FnScope N_text_of ["kind", "name", "parts", "marked"] (defScope s_text_of) := ⟨rfl, rfl, rfl, by decide +kernel, rfl, by decide +kernel, by decide +kernel⟩
theorem c_text_of (T : Tx K mg) : C8.Cal P w K mg base 1 "_text_of" spText [] := by
  obtain ⟨fd, F⟩ := f_text_of T
  refine mkCal F (g_text_of T) (F.bindsN fun _ _ _ _ _ _ us hl => match us, hl with | [_, _, _, _], _ => rfl) .nil sc_text_of (fun vs H Q E h => ?_) (fun cdv A outer s H vs Q E hr h => ?_)
  · obtain ⟨so, w, l, xs, b, rfl, _⟩ := h
    rfl
  obtain ⟨so, w, l, xs, b, rfl, hl, hw, hx, hxs, hne, q⟩ := h
  have hu := hu_of hr
  have sl : sizeLine = 16777216 := rfl
  have sj := joinL_len [44, 32] xs
  have ss := sum_le hxs
  have s3 : xs.length * 600000 ≤ 3 * 600000 := Nat.mul_le_mul_right _ hx
  have l2 : ([44, 32] : List Nat).length = 2 := rfl
  rw [l2] at sj
  have head : xs ≠ [] → ∃ x0, atI ((xs.map S).map V.str) 0 = some (.str (S x0)) ∧ xs.headD [] = x0 ∧ x0.length ≤ 600000 := fun h => by
    cases xs with
    | nil => exact absurd rfl h
    | cons x r => exact ⟨x, atI_nat (j := 0) (xs := (((x :: r).map S).map V.str)) rfl, rfl, hxs x List.mem_cons_self⟩
  refine ⟨_, (pss_cons (ps_if (pt_cmpR op_eq (pv 0) pe_str (nomark _)) (pss_one (ps_ret (pe_ifExp (pt_val (pv 3)) (pe_joined (PJ.cons (pe_fmt (pv 1)) (PJ.cons pe_str PJ.nil))) (pv 1)))) pss_nil)
    (pss_cons (ps_if (pt_cmpR op_eq (pv 0) pe_str (nomark _)) (pss_one (ps_ret (pe_joined (PJ.cons (pe_fmt (pe_ix (ix_listK (K := K) rfl) (pv 2) pe_int (fun _ _ => rfl))) (PJ.cons pe_str (PJ.cons (pe_fmt (pv 1)) PJ.nil)))))) pss_nil)
    (pss_cons (ps_if (pt_cmpR op_eq (pv 0) pe_str (nomark _)) (pss_one (ps_ret (pe_joined (PJ.cons pe_str (PJ.cons (pe_fmt (pe_ix (ix_listK (K := K) rfl) (pv 2) pe_int (fun _ _ => rfl))) PJ.nil))))) pss_nil)
    (pss_cons (ps_if (pt_cmpR op_eq (pv 0) pe_str (nomark _)) (pss_one (ps_ret pe_str)) pss_nil)
    (pss_cons (ps_set (i := 4) sc_text_of.nd rfl (Or.inl rfl) (pe_join pe_str (pv 2)))
    (pss_one (ps_ret (pe_ifExp (pt_cmpR op_eq (pv 0) pe_str (nomark _)) (pe_joined (PJ.cons (pe_fmt (pv 1)) (PJ.cons pe_str (PJ.cons (pe_fmt (pv 4)) (PJ.cons pe_str PJ.nil))))) (pe_joined (PJ.cons (pe_fmt (pv 1)) (PJ.cons pe_str (PJ.cons (pe_fmt (pv 4)) (PJ.cons pe_str PJ.nil))))))))))))), ?_⟩
  cases so with
  | row =>
    refine ⟨_, rfl, rfl, _, rfl, ?_⟩
    walk_at "yes"
    refine ⟨_, rfl, b, rfl, ?_⟩
    cases b with
    | true =>
      refine iteT ⟨_, rfl, .inl ⟨S w, rfl, by rw [S_len]; omega, _, rfl, by rw [em_, S_cat, S_len]; simp; omega, "'", rfl, by rw [em_, q_, S_cat, S_cat, S_len]; simp; omega, ?_⟩⟩
      rw [em_, q_, S_cat, S_cat]
      exact q
    | false => exact iteF ⟨_, rfl, q⟩
  | column =>
    obtain ⟨x0, h0, e0, z0⟩ := head (hne (.inl rfl))
    refine ⟨_, rfl, rfl, _, rfl, ?_⟩
    walk_at "no"
    refine ⟨_, rfl, rfl, _, rfl, ?_⟩
    walk_at "yes"
    refine ⟨_, rfl, l, _, 0, _, rfl, rfl, SqL.of hl, h0, .inl ⟨S x0, rfl, by rw [S_len]; omega, _, rfl, by rw [em_, S_cat, S_len]; simp; omega, ".", rfl, by rw [em_, dot_, S_cat, S_cat, S_len]; simp; omega, _, rfl, .inl ⟨S w, rfl, by rw [S_len]; omega, _, rfl, by rw [em_, dot_, S_cat, S_cat, S_cat, S_len]; simp; omega, ?_⟩⟩⟩
    rw [em_, dot_, S_cat, S_cat, S_cat]
    have e : tx .column w xs b = [] ++ x0 ++ [46] ++ w := by rw [← e0]; rfl
    rw [← e]
    exact q
  | place =>
    obtain ⟨x0, h0, e0, z0⟩ := head (hne (.inr rfl))
    refine ⟨_, rfl, rfl, _, rfl, ?_⟩
    walk_at "no"
    refine ⟨_, rfl, rfl, _, rfl, ?_⟩
    walk_at "no"
    refine ⟨_, rfl, rfl, _, rfl, ?_⟩
    walk_at "yes"
    refine ⟨"@", rfl, by rw [em_, at__, S_cat, S_len]; simp; omega, _, rfl, l, _, 0, _, rfl, rfl, SqL.of hl, h0, .inl ⟨S x0, rfl, by rw [S_len]; omega, _, rfl, by rw [em_, at__, S_cat, S_cat, S_len]; simp; omega, ?_⟩⟩
    rw [em_, at__, S_cat, S_cat]
    have e : tx .place w xs b = [] ++ [64] ++ x0 := by rw [← e0]; rfl
    rw [← e]
    exact q
  | zero =>
    refine ⟨_, rfl, rfl, _, rfl, ?_⟩
    walk_at "no"
    refine ⟨_, rfl, rfl, _, rfl, ?_⟩
    walk_at "no"
    refine ⟨_, rfl, rfl, _, rfl, ?_⟩
    walk_at "no"
    refine ⟨_, rfl, rfl, _, rfl, ?_⟩
    walk_at "yes"
    have e : (V.str "0" : V) = V.str (S (tx .zero w xs b)) := congrArg V.str zero_
    show Q (V.str "0") H
    rw [e]
    exact q
  | func =>
    refine ⟨_, rfl, rfl, _, rfl, ?_⟩
    walk_at "no"
    refine ⟨_, rfl, rfl, _, rfl, ?_⟩
    walk_at "no"
    refine ⟨_, rfl, rfl, _, rfl, ?_⟩
    walk_at "no"
    refine ⟨_, rfl, rfl, _, rfl, ?_⟩
    walk_at "no"
    refine ⟨⟨_, rfl⟩, _, rfl, ", ", l, xs.map S, rfl, rfl, .inl (SqL.of hl), by rw [lenS, List.length_map, cs_, S_len, l2]; omega, ?_⟩
    rw [cs_, join_S]
    refine ⟨_, rfl, rfl, _, rfl, ?_⟩
    walk_at "yes"
    refine ⟨_, rfl, .inl ⟨S w, rfl, by rw [S_len]; omega, _, rfl, by rw [em_, S_cat, S_len]; simp; omega, "(", rfl, by rw [em_, lp_, S_cat, S_cat, S_len]; simp; omega, _, rfl, .inl ⟨_, rfl, by rw [S_len]; omega, _, rfl, by rw [em_, lp_, S_cat, S_cat, S_cat, S_len]; simp; omega, ")", rfl, by rw [em_, lp_, rp_, S_cat, S_cat, S_cat, S_cat, S_len]; simp; omega, ?_⟩⟩⟩
    rw [em_, lp_, rp_, S_cat, S_cat, S_cat, S_cat]
    exact q
  | rule =>
    refine ⟨_, rfl, rfl, _, rfl, ?_⟩
    walk_at "no"
    refine ⟨_, rfl, rfl, _, rfl, ?_⟩
    walk_at "no"
    refine ⟨_, rfl, rfl, _, rfl, ?_⟩
    walk_at "no"
    refine ⟨_, rfl, rfl, _, rfl, ?_⟩
    walk_at "no"
    refine ⟨⟨_, rfl⟩, _, rfl, ", ", l, xs.map S, rfl, rfl, .inl (SqL.of hl), by rw [lenS, List.length_map, cs_, S_len, l2]; omega, ?_⟩
    rw [cs_, join_S]
    refine ⟨_, rfl, rfl, _, rfl, ?_⟩
    walk_at "no"
    refine ⟨_, rfl, .inl ⟨S w, rfl, by rw [S_len]; omega, _, rfl, by rw [em_, S_cat, S_len]; simp; omega, "[", rfl, by rw [em_, lb_, S_cat, S_cat, S_len]; simp; omega, _, rfl, .inl ⟨_, rfl, by rw [S_len]; omega, _, rfl, by rw [em_, lb_, S_cat, S_cat, S_cat, S_len]; simp; omega, "]", rfl, by rw [em_, lb_, rb_, S_cat, S_cat, S_cat, S_cat, S_len]; simp; omega, ?_⟩⟩⟩
    rw [em_, lb_, rb_, S_cat, S_cat, S_cat, S_cat]
    exact q
end Pf
namespace Bs
open PySem PySem.Spec PyProof.Rows L2 SX
variable {P : Program} {w : World} {K : PySem.W.Frag} {mg : Str → Option Value} {base : Heap}
theorem ok0 {nm qual : Str} {par : Arguments} {bd : List Stmt} {sco : Scope} {N ps : List Str} {k : Nat} {sp : Sp} {kws : List (Str × V)} {dvs' : List V} {a : Addr} {fd : FuncData}
    (F : FunD K nm qual par bd sco dvs' kws a fd) (S : FnScope N ps sco) (len : ∀ vs H Q E, sp vs H Q E → vs.length = ps.length)
    (body : ∀ (cdv : Value) (A : Around) (outer : List Env) (s : Shared) (H : Hp) (vs : List V) (Q : VK) (E : XK), Room k (A.deeper (envOfC qual sco s.heap.objs.size a cdv)) → sp vs H Q E →
      ∃ t, PSs (cxOf C8.CX0 P w K mg base N qual sco a cdv A outer s H E).nox bd t ∧ t { nx := fun _ H' => Q .non H', rt := Q } (start N vs) H) : FnOk P w K mg base C8.CX0 (k + 1) a fd ps sp :=
  F.ok S len fun cdv A outer s H vs Q E hr h => let ⟨t, h1, h2⟩ := body cdv A outer s H vs Q E hr h
    ⟨t, h1.nox, h2⟩
theorem upd_swap {H : Hp} {p l : Addr} {A B L : HO} (h : p ≠ l) : upd (upd (upd H p A) l L) p B = upd (upd H l L) p B := by
  funext b
  unfold upd
  by_cases c : b = p
  · simp [c]
  · simp [c]
theorem row_dec (so : So) : decide (V.str so.s = V.str "row") = decide (so = .row) := by
  cases so with
  | row => exact decide_eq_true rfl
  | _ => exact decide_eq_false fun h => absurd (V.str.inj h) (by decide +kernel)
theorem take_one {α : Type} {ts : List α} {i : Nat} {t : α} (h : ts[i]? = some t) : ts.take (i + 1) = ts.take i ++ [t] := by
  rw [List.take_add_one, h]
  rfl
theorem get_pair {α β : Type} {xs : List α} {ys : List β} {i : Nat} {x : α} (hl : xs.length = ys.length) (h : xs[i]? = some x) : ∃ y, ys[i]? = some y ∧ y ∈ ys := by
  have hi := (List.getElem?_eq_some_iff.mp h).1
  exact ⟨ys[i], List.getElem?_eq_getElem (by omega), List.getElem_mem (by omega)⟩
/-- parts that a term of this kind may have, as far as the program leans on it -/
structure Shp (so : So) (w : List Nat) (ts : List Mt) : Prop where
  w8 : w.length ≤ 8
  t3 : ts.length ≤ 3
  tx : ∀ t ∈ ts, t.txt.length ≤ 600000
  ne : so = .column ∨ so = .place → ts ≠ []
def spInit (K : PySem.W.Frag) (C : Addr) : Sp := fun vs H Q _ => ∃ (G : Hp) (p dx pa : Addr) (so : So) (w : List Nat) (b : Bool) (pv : List V) (ts : List Mt), vs = [.ref p, .str so.s, .str (S w), .ref pa, .bl b] ∧ Same G H ∧ G p = none ∧ H p = some (.ins C dx []) ∧
  (SqL K H pa pv ∨ SqT K H pa pv) ∧ pv.length = ts.length ∧ (∀ (i : Nat) (v : V) (t : Mt), pv[i]? = some v → ts[i]? = some t → TAt C G v t) ∧ Shp so w ts ∧
  ∀ (H' : Hp) (l : Addr), Kp p H H' → H l = none → H' l = some (.lst pv) → H' p = some (.ins C dx (tf so w l (decide (so = .row) && b) (tx so w (ts.map Mt.txt) (decide (so = .row) && b)) (1 + (ts.map Mt.dep).foldr max 0))) → Q .non H'
end Bs
namespace Pf
open PySem PySem.Spec PyProof.Rows L2 Bs SX
variable {P : Program} {w : World} {K : PySem.W.Frag} {mg : Str → Option Value} {base : Heap}
abbrev CT (K : PySem.W.Frag) : Addr := He.ga K "Term"
theorem scope_depth : FnScope ["self"] ["self"] (defScope s_Term_depth) := ⟨rfl, rfl, rfl, by decide +kernel, rfl, by decide +kernel, by decide +kernel⟩
/-- the property's getter -/
theorem o_depth (T : Tx K mg) : ∃ fd, FnOk P w K mg base C8.CX0 1 (Hd.inRec "property" "Term" "depth" K) fd ["self"] (getSp (CT K) "_depth") ∧ Binds K fd ["self"] [] := by
  obtain ⟨fd, F⟩ := f_Term_depth T
  have b := F.bindsN (ps := ["self"]) fun _ _ _ _ _ _ us hl => match us, hl with | [_], _ => rfl
  obtain ⟨oc, od, dV, kV, doc, pm, an, cdv, ct, osl, rfl, lk, hcd, _, _⟩ := F.ex
  exact ⟨_, fn_getter (N := ["self"]) lk hcd scope_depth rfl rfl (cls_Term_ T) (noat_Term_depth T), b⟩
abbrev N_Term_init : List Str := ["self", "kind", "name", "parts", "marked", "part"]
theorem sc_Term_init : FnScope N_Term_init ["self", "kind", "name", "parts", "marked"] (defScope s_Term_init) := ⟨rfl, rfl, rfl, by decide +kernel, rfl, by decide +kernel, by decide +kernel⟩
theorem o_init (T : Tx K mg) : ∃ fd, FnOk P w K mg base C8.CX0 4 (He.ma K (CT K) "__init__") fd ["self", "kind", "name", "parts", "marked"] (spInit K (CT K)) ∧ FunD K "__init__" "Term.__init__" (defArgs s_Term_init) (defBody s_Term_init) (defScope s_Term_init) [.bl false] [] (He.ma K (CT K) "__init__") fd := by
  obtain ⟨fd, F⟩ := f_Term_init T
  refine ⟨fd, ?_, F⟩
  have c_text_of := c_text_of (P := P) (w := w) (base := base) T
  obtain ⟨fdd, FD, bD⟩ := o_depth (P := P) (w := w) (base := base) T
  refine ok0 F sc_Term_init (fun vs H Q E h => ?_) (fun cdv A outer s H vs Q E hr h => ?_)
  · obtain ⟨G, p, dx, pa, so, w, b, pv, ts, rfl, _⟩ := h
    rfl
  obtain ⟨G, p, dx, pa, so, w, b, pv', ts, rfl, hG, hGp, hp, hpa, hlen, hts, sh, q⟩ := h
  have hu := hu_of hr
  have cls_depth := cls_Term_ T
  have pp_depth := Hd.propB_ok (ex_2 T)
  have F_depth := FD
  have b_depth := bD
  have C0 := cls_Term_ T
  have sl : sizeLine = 16777216 := rfl
  refine ⟨_, (pss_cons (ps_fld (pv 0) (pv 1) rfl)
    (pss_cons (ps_fld (pv 0) (pv 2) rfl)
    (pss_cons (ps_fld (pv 0) (pe_callTy call_list_of (by rfl) (z_list T) boot_list (pa_cons (pv 3) pa_nil)) rfl)
    (C8.pss_cut (ps_fld (pv 0) (pe_and (pe_cmpR op_eq (pv 1) pe_str (nomark _)) (pe_one (pe_callTy call_bool1 (by rfl) (z_bool T) boot_bool (pa_cons (pv 4) pa_nil)))) rfl)
    (pss_cons (ps_fld (pv 0) (C8.pe_c c_text_of hr (by first | decide | omega) rfl (pa_cons (pv 1) (pa_cons (pv 2) (pa_cons (pe_lc (own := [("part", 5)]) rfl sc_Term_init.nd (pi_listK (K := K) rfl (pe_fldK (K := K) rfl (pv 0) (by rfl))) (blkOk_by (N := N_Term_init) (sc := defScope s_Term_init) (by decide +kernel)) (fun _ _ _ _ _ => (pg_name (i := 5) sc_Term_init.nd rfl (Or.inl rfl))) (fun _ _ _ _ _ => pts_nil) (fun _ _ _ _ _ => (pe_fldK (K := K) rfl (pv 5) (by rfl)))) (pa_cons (pe_fldK (K := K) rfl (pv 0) (by rfl)) pa_nil))))) rfl)
    (pss_one (ps_fld (pv 0) (pe_op op_add pe_int (pe_callBK (cr_maxD rfl hu) (by rfl) (z_max T) boot_max (pa_cons (pe_lc (own := [("part", 5)]) rfl sc_Term_init.nd (pi_listK (K := K) rfl (pe_fldK (K := K) rfl (pv 0) (by rfl))) (blkOk_by (N := N_Term_init) (sc := defScope s_Term_init) (by decide +kernel)) (fun _ _ _ _ _ => (pg_name (i := 5) sc_Term_init.nd rfl (Or.inl rfl))) (fun _ _ _ _ _ => pts_nil) (fun _ _ _ _ _ => (pe_prop (E := C8.E0) (pv 5) cls_depth pp_depth F_depth (hr.mono (by decide)) b_depth .nil C8.pass0 rfl))) pa_nil) (pk_cons pe_int pk_nil))) rfl))))))), ?_⟩
  refine ⟨_, rfl, _, rfl, p, CT K, dx, [], rfl, hp, C0, noat_Term_kind T, (by show 0 < 1000; decide), ?_⟩
  refine ⟨_, rfl, _, rfl, p, CT K, dx, _, rfl, upd_same, C0, noat_Term_name T, (by show 1 < 1000; decide), ?_⟩
  rw [upd_upd]
  have k1 : Kp p H (upd H p (.ins (CT K) dx (putF "name" (.str (S w)) (putF "kind" (.str so.s) [])))) := Kp.upd
  have hpap : pa ≠ p ∨ ∀ H' : Hp, SqL K H' pa pv' ∨ SqT K H' pa pv' := by
    rcases hpa with ((h | ⟨o, h⟩) | h) | ((h | ⟨o, h⟩) | h)
    · exact .inl (ne_of h hp (by intro z; cases z))
    · exact .inl (ne_of h hp (by intro z; cases z))
    · exact .inr fun _ => .inl (.inr h)
    · exact .inl (ne_of h hp (by intro z; cases z))
    · exact .inl (ne_of h hp (by intro z; cases z))
    · exact .inr fun _ => .inr (.inr h)
  have hpa1 : SqL K (upd H p (.ins (CT K) dx (putF "name" (.str (S w)) (putF "kind" (.str so.s) [])))) pa pv' ∨ SqT K (upd H p (.ins (CT K) dx (putF "name" (.str (S w)) (putF "kind" (.str so.s) [])))) pa pv' := by
    rcases hpap with ne | all
    · rcases hpa with h | h
      · exact .inl (SqL.kp h k1 fun _ _ => ne)
      · exact .inr (SqT.kp h k1 fun _ _ => ne)
    · exact all _
  refine ⟨_, rfl, pa, pv', rfl, hpa1, fun l hl => ?_⟩
  have npl : p ≠ l := ne_of_none upd_same hl
  have hl0 : H l = none := by rw [upd_ne npl.symm] at hl; exact hl
  have hGl : G l = none := hG.free hl0
  refine ⟨_, rfl, p, CT K, dx, _, rfl, (by rw [upd_ne npl]; exact upd_same), C0, noat_Term_parts T, (by show 2 < 1000; decide), ?_⟩
  rw [upd_swap npl]
  have hG1 : Same G (upd H l (.lst pv')) := Same.off hG hGl
  have hlst : upd H l (.lst pv') l = some (.lst pv') := upd_same
  have hk1 : Kp p H (upd H l (.lst pv')) := (Kp.refl p H).new hl0
  generalize upd H l (.lst pv') = Hl at hG1 hlst hk1
  obtain ⟨bm, ebm⟩ : ∃ bm, bm = (decide (so = .row) && b) := ⟨_, rfl⟩
  rw [← ebm] at q
  refine ⟨fun σ' H' => σ' = start N_Term_init [.ref p, .str so.s, .str (S w), .ref pa, .bl b] ∧ H' = upd Hl p (.ins (CT K) dx (putF "marked" (.bl bm) (putF "parts" (.ref l) (putF "name" (.str (S w)) (putF "kind" (.str so.s) []))))), ?_, ?_⟩
  · refine ⟨_, rfl, rfl, _, rfl, ?_⟩
    rw [row_dec]
    refine ite2 (fun c => ?_) (fun c => ?_)
    · refine ⟨_, rfl, .inr ⟨b, rfl, _, rfl, p, CT K, dx, _, rfl, upd_same, C0, noat_Term_marked T, (by show 3 < 1000; decide), rfl, ?_⟩⟩
      rw [upd_upd, ebm, c, Bool.true_and]
    · refine ⟨_, rfl, p, CT K, dx, _, rfl, upd_same, C0, noat_Term_marked T, (by show 3 < 1000; decide), rfl, ?_⟩
      rw [upd_upd, ebm, Bool.eq_false_iff.mpr c, Bool.false_and]
  rintro σ' H' ⟨rfl, rfl⟩
  have lk_parts : ∀ u : List (Str × V), (putF "marked" (.bl bm) (putF "parts" (.ref l) u)).lookup ("parts" : Str) = some (.ref l) := fun u => by rw [lookup_putF, if_neg (by decide +kernel), lookup_putF, if_pos rfl]
  have lk_marked : ∀ u : List (Str × V), (putF "marked" (.bl bm) u).lookup ("marked" : Str) = some (.bl bm) := fun u => by rw [lookup_putF, if_pos rfl]
  have nlp : l ≠ p := npl.symm
  refine ⟨_, rfl, _, rfl, _, rfl, p, CT K, dx, _, _, rfl, upd_same, C0, noat_Term_parts T, lk_parts _, l, rfl, ⟨pv', SqL.of (by rw [upd_ne nlp]; exact hlst)⟩, fun D hD => ?_⟩
  have nDp : D ≠ p := (ne_of_none upd_same hD).symm
  have hD1 : Hl D = none := by rw [upd_ne nDp] at hD; exact hD
  have nlD : l ≠ D := ne_of_none hlst hD1
  have hGD : G D = none := hG1.free hD1
  generalize eF4 : putF "marked" (.bl bm) (putF "parts" (.ref l) (putF "name" (.str (S w)) (putF "kind" (.str so.s) []))) = F4 at *
  refine lc_list (K := K) (a := l) (xs := pv') (fun i H' => H' = upd (upd Hl p (.ins (CT K) dx F4)) D (.lst ((((ts.take i).map Mt.txt).map S).map V.str))) rfl ?_ ?_ ?_
  · rintro i H' _ rfl
    exact SqL.of (by rw [upd_ne nlD, upd_ne nlp]; exact hlst)
  · rintro i x H' hx rfl
    obtain ⟨t, ht, mt⟩ := get_pair hlen hx
    have tt := hts i x t hx ht
    cases tt with
    | @mk a' dx' l' so' w' vs' ts' b' ha' hp' hl' h' =>
    have hGH : Same G (upd (upd Hl p (.ins (CT K) dx F4)) D (.lst ((((ts.take i).map Mt.txt).map S).map V.str))) := Same.off (Same.off hG1 hGp) hGD
    refine ⟨rfl, ?_⟩
    unfold tYes
    refine iteT ⟨_, rfl, a', CT K, dx', _, _, rfl, hGH _ _ ha', C0, noat_Term_text T, tf_text, _, upd_same, ?_, ?_⟩
    · have := sh.t3
      simp only [List.length_map, List.length_take]
      omega
    · rw [upd_upd, take_one ht, List.map_append, List.map_append, List.map_append]
      rw [← Mt.txt_mk]
      rfl
  rintro H' rfl
  have etake : ts.take pv'.length = ts := by rw [hlen, List.take_length]
  rw [etake]
  refine ⟨_, rfl, p, CT K, dx, _, _, rfl, (by rw [upd_ne nDp.symm]; exact upd_same), C0, noat_Term_marked T, (by rw [← eF4]; exact lk_marked _), so, w, D, ts.map Mt.txt, bm, rfl, upd_same, sh.w8, by rw [List.length_map]; exact sh.t3, ?_, ?_, ?_⟩
  · intro x hx
    obtain ⟨t, ht, rfl⟩ := List.mem_map.mp hx
    exact sh.tx t ht
  · intro h e
    exact sh.ne h (List.map_eq_nil_iff.mp e)
  refine ⟨_, rfl, p, CT K, dx, _, rfl, (by rw [upd_ne nDp.symm]; exact upd_same), C0, noat_Term_text T, (by rw [← eF4]; show 4 < 1000; decide), ?_⟩
  rw [upd_swap nDp.symm]
  have hG2 : Same G (upd Hl D (.lst (((ts.map Mt.txt).map S).map V.str))) := Same.off hG1 hGD
  have hlst2 : upd Hl D (.lst (((ts.map Mt.txt).map S).map V.str)) l = some (.lst pv') := by rw [upd_ne nlD]; exact hlst
  have hk2 : Kp p H (upd Hl D (.lst (((ts.map Mt.txt).map S).map V.str))) := hk1.new hD1
  generalize upd Hl D (.lst (((ts.map Mt.txt).map S).map V.str)) = Hm at hG2 hlst2 hk2
  have lk_parts5 : (putF "text" (.str (S (tx so w (ts.map Mt.txt) bm))) F4).lookup ("parts" : Str) = some (.ref l) := by
    rw [lookup_putF, if_neg (by decide +kernel), ← eF4]; exact lk_parts _
  have e5 : putF "text" (.str (S (tx so w (ts.map Mt.txt) bm))) F4 = putF "text" (.str (S (tx so w (ts.map Mt.txt) bm))) (putF "marked" (.bl bm) (putF "parts" (.ref l) (putF "name" (.str (S w)) (putF "kind" (.str so.s) [])))) := by rw [eF4]
  generalize putF "text" (.str (S (tx so w (ts.map Mt.txt) bm))) F4 = F5 at *
  refine ⟨_, rfl, p, CT K, dx, _, _, rfl, upd_same, C0, noat_Term_parts T, lk_parts5, l, rfl, ⟨pv', SqL.of (by rw [upd_ne nlp]; exact hlst2)⟩, fun D2 hD2 => ?_⟩
  have n2p : D2 ≠ p := (ne_of_none upd_same hD2).symm
  have hD21 : Hm D2 = none := by rw [upd_ne n2p] at hD2; exact hD2
  have nlD2 : l ≠ D2 := ne_of_none hlst2 hD21
  have hGD2 : G D2 = none := hG2.free hD21
  refine lc_list (K := K) (a := l) (xs := pv') (fun i H' => H' = upd (upd Hm p (.ins (CT K) dx F5)) D2 (.lst ((((ts.take i).map Mt.dep).map fun (n : Nat) => (n : Int)).map V.int))) rfl ?_ ?_ ?_
  · rintro i H' _ rfl
    exact SqL.of (by rw [upd_ne nlD2, upd_ne nlp]; exact hlst2)
  · rintro i x H' hx rfl
    obtain ⟨t, ht, mt⟩ := get_pair hlen hx
    have tt := hts i x t hx ht
    cases tt with
    | @mk a' dx' l' so' w' vs' ts' b' ha' hp' hl' h' =>
    have hGH : Same G (upd (upd Hm p (.ins (CT K) dx F5)) D2 (.lst ((((ts.take i).map Mt.dep).map fun (n : Nat) => (n : Int)).map V.int))) := Same.off (Same.off hG2 hGp) hGD2
    refine ⟨rfl, ?_⟩
    unfold tYes
    refine iteT ⟨_, rfl, a', dx', _, rfl, hGH _ _ ha', a', dx', _, _, rfl, hGH _ _ ha', tf_depth, _, upd_same, ?_, ?_⟩
    · have := sh.t3
      simp only [List.length_map, List.length_take]
      omega
    · rw [upd_upd, take_one ht, List.map_append, List.map_append, List.map_append]
      rw [← Mt.dep_mk so' w' ts' b']
      rfl
  rintro H' rfl
  rw [etake]
  refine ⟨D2, (ts.map Mt.dep).map (fun (n : Nat) => (n : Int)), 0, rfl, rfl, SqL.of upd_same, fun m m0 m1 => ?_⟩
  have em := max_is m0 m1
  refine ⟨_, _, rfl, rfl, _, rfl, p, CT K, dx, _, rfl, (by rw [upd_ne n2p.symm]; exact upd_same), C0, noat_Term_depth T, (by rw [e5]; show 5 < 1000; decide), ?_⟩
  rw [upd_swap n2p.symm]
  refine q _ l ?_ hl0 (by rw [upd_ne nlp, upd_ne nlD2]; exact hlst2) ?_
  · exact (hk2.new hD21).put
  · rw [upd_same, em, e5]
    have e6 : (1 : Int) + (((ts.map Mt.dep).foldr max 0 : Nat) : Int) = ((1 + (ts.map Mt.dep).foldr max 0 : Nat) : Int) := by omega
    dsimp only
    rw [e6]
    rfl
end Pf
namespace Bs
open PySem PySem.Spec PyProof.Rows L2 SX
variable {P : Program} {w : World} {K : PySem.W.Frag} {mg : Str → Option Value} {base : Heap}
theorem make_term {G H : Hp} {C pa : Addr} {so : So} {w : List Nat} {b : Bool} {pv : List V} {ts : List Mt} {Q : VK} {E : XK} (hG : Same G H) (hpa : SqL K H pa pv ∨ SqT K H pa pv) (hlen : pv.length = ts.length)
    (hts : ∀ (i : Nat) (v : V) (t : Mt), pv[i]? = some v → ts[i]? = some t → TAt C G v t) (sh : Shp so w ts)
    (q : ∀ (G' H' : Hp) (x : Addr), Step none G H G' H' → TAt C G' (.ref x) (.mk so w ts (decide (so = .row) && b)) → H x = none → Q (.ref x) H') :
    ∀ x dx, H x = none → H dx = none → dx ≠ x → spInit K C [.ref x, .str so.s, .str (S w), .ref pa, .bl b] (upd (upd H dx (.own x)) x (.ins C dx [])) (fun v H2 => v = .non ∧ Q (.ref x) H2) E := by
  intro x dx hx hdx ne
  have hx1 : upd H dx (.own x) x = none := by rw [upd_ne (fun z => ne z.symm)]; exact hx
  have s1 : Same H (upd (upd H dx (.own x)) x (.ins C dx [])) := Same.new (Same.new (Same.refl H) hdx) hx1
  have hGx : G x = none := hG.free hx
  refine ⟨G, x, dx, pa, so, w, b, pv, ts, rfl, hG.trans s1, hGx, upd_same, ?_, hlen, hts, sh, fun H' l kp hl hl' hx' => ⟨rfl, ?_⟩⟩
  · rcases hpa with h | h
    · exact .inl (s1.seq h)
    · refine .inr ?_
      rcases h with (h | ⟨o, h⟩) | h
      · exact .inl (.inl (s1 _ _ h))
      · exact .inl (.inr ⟨o, s1 _ _ h⟩)
      · exact .inr h
  have hl0 : H l = none := s1.free hl
  have nlx : l ≠ x := fun z => by rw [z, upd_same] at hl; cases hl
  have hGl : G l = none := hG.free hl0
  have gg : Same G (upd (upd G l (.lst pv)) x (.ins C dx (tf so w l (decide (so = .row) && b) (tx so w (ts.map Mt.txt) (decide (so = .row) && b)) (1 + (ts.map Mt.dep).foldr max 0)))) :=
    Same.off (Same.off (Same.refl G) hGl) hGx
  refine q _ H' x ⟨gg, fun c o e => ?_, fun c hc => ?_, fun c o e _ => ?_, fun c z => by cases z⟩ (.mk upd_same (by rw [upd_ne nlx]; exact upd_same) hlen fun i v t h1 h2 => (hts i v t h1 h2).same gg) hx
  · by_cases e1 : c = x
    · subst e1; rw [upd_same] at e; rw [hx']; exact e
    · rw [upd_ne e1] at e
      by_cases e2 : c = l
      · subst e2; rw [upd_same] at e; rw [hl']; exact e
      · rw [upd_ne e2] at e
        exact kp c o (s1 c o (hG c o e)) e1
  · by_cases e1 : c = x
    · subst e1; exact .inr hx
    · rw [upd_ne e1] at hc
      by_cases e2 : c = l
      · subst e2; exact .inr hl0
      · rw [upd_ne e2] at hc; exact .inl hc
  · have e1 : c ≠ x := fun z => by rw [z, hx] at e; cases e
    exact kp c o (s1 c o e) e1
def spRow (C : Addr) : Sp := fun vs H Q _ => ∃ (G : Hp) (w : List Nat) (b : Bool), vs = [.str (S w), .bl b] ∧ Same G H ∧ w.length ≤ 8 ∧
  ∀ (G' H' : Hp) (x : Addr), Step none G H G' H' → TAt C G' (.ref x) (.mk .row w [] b) → H x = none → Q (.ref x) H'
def spCol (C : Addr) : Sp := fun vs H Q _ => ∃ (G : Hp) (t w : List Nat) (b : Bool), vs = [.str (S t), .str (S w), .bl b] ∧ Same G H ∧ t.length ≤ 8 ∧ w.length ≤ 8 ∧
  ∀ (G' H' : Hp) (x : Addr), Step none G H G' H' → TAt C G' (.ref x) (.mk .column w [.mk .row t [] b] false) → H x = none → Q (.ref x) H'
def spPlace (C : Addr) : Sp := fun vs H Q _ => ∃ (G : Hp) (t : List Nat) (b : Bool), vs = [.str (S t), .bl b] ∧ Same G H ∧ t.length ≤ 8 ∧
  ∀ (G' H' : Hp) (x : Addr), Step none G H G' H' → TAt C G' (.ref x) (.mk .place [] [.mk .row t [] b] false) → H x = none → Q (.ref x) H'
def spZero (C : Addr) : Sp := fun vs H Q _ => ∃ (G : Hp), vs = [] ∧ Same G H ∧
  ∀ (G' H' : Hp) (x : Addr), Step none G H G' H' → TAt C G' (.ref x) (.mk .zero [] [] false) → H x = none → Q (.ref x) H'
def spEqT (C : Addr) (K : PySem.W.Frag) : Addr → V → Bool → Hp → Prop := fun a y r H => ∃ (G : Hp) (m : Mt), Same G H ∧ TAt C G (.ref a) m ∧
  ((∃ m2, TAt C G y m2 ∧ r = decide (m.txt = m2.txt)) ∨ (r = false ∧ ∃ t : String, t ∈ ["NoneType", "bool", "int", "str", "list", "tuple", "dict"] ∧ TyX K H y (.type t)))
def spStrT (C : Addr) : Addr → Str → Hp → Prop := fun a x H => ∃ (G : Hp) (m : Mt), Same G H ∧ TAt C G (.ref a) m ∧ x = S m.txt
theorem TAt.obj {C : Addr} {G : Hp} {v : V} {m : Mt} (h : TAt C G v m) : ∃ (a dx l : Addr) (so : So) (w : List Nat) (ts : List Mt) (b : Bool), v = .ref a ∧ m = .mk so w ts b ∧ G a = some (.ins C dx (tf so w l b m.txt m.dep)) := by
  cases h with
  | @mk a dx l so w vs ts b ha hp hl h => exact ⟨a, dx, l, so, w, ts, b, rfl, rfl, by rw [Mt.txt_mk, Mt.dep_mk]; exact ha⟩
end Bs
namespace Pf
open PySem PySem.Spec PyProof.Rows L2 Bs SX
variable {P : Program} {w : World} {K : PySem.W.Frag} {mg : Str → Option Value} {base : Heap}
theorem m_Term (T : Tx K mg) : C8.Mak P w K mg base 4 "Term" (CT K) (spInit K (CT K)) [] := by
  obtain ⟨fd, O, F⟩ := o_init (P := P) (w := w) (base := base) T
  obtain ⟨ds, hv, hb⟩ := F.binds1 (ps := ["self", "kind", "name", "parts", "marked"]) 5 1 (by simp) (by rfl) fun _ _ _ _ _ _ _ us its hl hi => match us, its, hl, hi with | [_, _, _, _, _], [_], _, _ => ⟨_, rfl, rfl⟩
  exact ⟨_, fd, _, ds, mkr_Term_ T, O, g_Term T, hb, hv⟩
theorem m_Term3 (T : Tx K mg) : C8.Mak P w K mg base 4 "Term" (CT K) (spInit K (CT K)) [.bl false] := by
  obtain ⟨fd, O, F⟩ := o_init (P := P) (w := w) (base := base) T
  obtain ⟨ds, hv, hb⟩ := F.binds1 (ps := ["self", "kind", "name", "parts", "marked"]) 4 0 (by simp) (by rfl) fun _ _ _ _ _ _ _ us its hl hi => match us, its, hl, hi with | [_, _, _, _], [_], _, _ => ⟨_, rfl, rfl⟩
  exact ⟨_, fd, _, ds, mkr_Term_ T, O, g_Term T, hb, hv⟩
abbrev N_row_term : List Str := ["table", "marked"]
theorem sc_row_term : FnScope N_row_term ["table", "marked"] (defScope s_row_term) := ⟨rfl, rfl, rfl, by decide +kernel, rfl, by decide +kernel, by decide +kernel⟩
theorem o_row_term (T : Tx K mg) : ∃ fd, FnOk P w K mg base C8.CX0 6 (He.ga K "row_term") fd ["table", "marked"] (spRow (CT K)) ∧ FunD K "row_term" "row_term" (defArgs s_row_term) (defBody s_row_term) (defScope s_row_term) [.bl false] [] (He.ga K "row_term") fd := by
  obtain ⟨fd, F⟩ := f_row_term T
  have m_Term := m_Term (P := P) (w := w) (base := base) T
  refine ⟨fd, ok0 F sc_row_term (fun vs H Q E h => ?_) (fun cdv A outer s H vs Q E hr h => ?_), F⟩
  · obtain ⟨G, w, b, rfl, _⟩ := h
    rfl
  obtain ⟨G, w, b, rfl, hG, hw, q⟩ := h
  refine ⟨_, (pss_one (ps_ret (C8.pe_mk m_Term hr (by first | decide | omega) rfl (pa_cons pe_str (pa_cons (pv 0) (pa_cons (pe_lst pa_nil) (pa_cons (pv 1) pa_nil))))))), ?_⟩
  refine ⟨_, rfl, Nat.zero_le _, fun l hl => ⟨_, rfl, ?_⟩⟩
  have s1 : Step none G H G (upd H l (.lst [])) := (Step.refl hG).loc hl (hG.free hl)
  refine make_term (so := .row) (w := w) (b := b) (pv := []) (ts := []) s1.gh (.inl (SqL.of upd_same)) rfl (fun i v t h => by cases h) ⟨hw, Nat.zero_le _, (fun t ht => by cases ht), (fun h => by rcases h with h | h <;> cases h)⟩ fun G' H' x s2 ht hx => ?_
  exact q G' H' x (s1.trans s2) ht (s1.free hx)
theorem c_row_term (T : Tx K mg) : C8.Cal P w K mg base 6 "row_term" (spRow (CT K)) [] := by
  obtain ⟨fd, O, F⟩ := o_row_term (P := P) (w := w) (base := base) T
  obtain ⟨ds, hv, hb⟩ := F.binds1 (ps := ["table", "marked"]) 2 1 (by simp) (by rfl) fun _ _ _ _ _ _ _ us its hl hi => match us, its, hl, hi with | [_, _], [_], _, _ => ⟨_, rfl, rfl⟩
  exact ⟨_, fd, _, ds, O, g_row_term T, F.kp, hb, hv⟩
theorem c_row_term1 (T : Tx K mg) : C8.Cal P w K mg base 6 "row_term" (spRow (CT K)) [.bl false] := by
  obtain ⟨fd, O, F⟩ := o_row_term (P := P) (w := w) (base := base) T
  obtain ⟨ds, hv, hb⟩ := F.binds1 (ps := ["table", "marked"]) 1 0 (by simp) (by rfl) fun _ _ _ _ _ _ _ us its hl hi => match us, its, hl, hi with | [_], [_], _, _ => ⟨_, rfl, rfl⟩
  exact ⟨_, fd, _, ds, O, g_row_term T, F.kp, hb, hv⟩
theorem row_txt (t : List Nat) (b : Bool) (h : t.length ≤ 8) : (Mt.mk .row t [] b).txt.length ≤ 9 := by
  rw [Mt.txt_mk]
  unfold tx
  simp only
  split
  · rw [List.length_append, List.length_singleton]; omega
  · omega
theorem one_row {C : Addr} {G : Hp} {x : Addr} {t : Mt} (h : TAt C G (.ref x) t) : ∀ (i : Nat) (v : V) (u : Mt), [V.ref x][i]? = some v → [t][i]? = some u → TAt C G v u := fun i v u h1 h2 => by
  cases i with
  | zero => cases h1; cases h2; exact h
  | succ i => cases h1
abbrev N_column_term : List Str := ["table", "name", "marked"]
theorem sc_column_term : FnScope N_column_term ["table", "name", "marked"] (defScope s_column_term) := ⟨rfl, rfl, rfl, by decide +kernel, rfl, by decide +kernel, by decide +kernel⟩
theorem o_column_term (T : Tx K mg) : ∃ fd, FnOk P w K mg base C8.CX0 7 (He.ga K "column_term") fd ["table", "name", "marked"] (spCol (CT K)) ∧ FunD K "column_term" "column_term" (defArgs s_column_term) (defBody s_column_term) (defScope s_column_term) [.bl false] [] (He.ga K "column_term") fd := by
  obtain ⟨fd, F⟩ := f_column_term T
  have m_Term3 := m_Term3 (P := P) (w := w) (base := base) T
  have c_row_term := c_row_term (P := P) (w := w) (base := base) T
  refine ⟨fd, ok0 F sc_column_term (fun vs H Q E h => ?_) (fun cdv A outer s H vs Q E hr h => ?_), F⟩
  · obtain ⟨G, t, w, b, rfl, _⟩ := h
    rfl
  obtain ⟨G, t, w, b, rfl, hG, ht, hw, q⟩ := h
  refine ⟨_, (pss_one (ps_ret (C8.pe_mk m_Term3 hr (by first | decide | omega) rfl (pa_cons pe_str (pa_cons (pv 1) (pa_cons (pe_lst (pa_cons (C8.pe_c c_row_term hr (by first | decide | omega) rfl (pa_cons (pv 0) (pa_cons (pv 2) pa_nil))) pa_nil)) pa_nil)))))), ?_⟩
  refine ⟨_, rfl, _, rfl, _, rfl, G, t, b, rfl, hG, ht, fun G1 H1 x s1 tx hx => ?_⟩
  refine ⟨by show 1 ≤ sizeLine; decide, fun l hl => ?_⟩
  have s2 := s1.loc (q := l) (o := .lst [.ref x]) (s1.free hl) (s1.gh.free hl)
  refine make_term (so := .column) (w := w) (b := false) (pv := [.ref x]) (ts := [.mk .row t [] b]) s2.gh (.inl (SqL.of upd_same)) rfl (one_row tx) ⟨hw, by simp, (fun u hu => by
    rw [List.mem_singleton.mp hu]; exact Nat.le_trans (row_txt t b ht) (by decide)), (fun _ h => by cases h)⟩ fun G' H' y s3 hy hny => ?_
  exact q G' H' y (s2.trans s3) hy (s2.free hny)
theorem c_column_term (T : Tx K mg) : C8.Cal P w K mg base 7 "column_term" (spCol (CT K)) [] := by
  obtain ⟨fd, O, F⟩ := o_column_term (P := P) (w := w) (base := base) T
  obtain ⟨ds, hv, hb⟩ := F.binds1 (ps := ["table", "name", "marked"]) 3 1 (by simp) (by rfl) fun _ _ _ _ _ _ _ us its hl hi => match us, its, hl, hi with | [_, _, _], [_], _, _ => ⟨_, rfl, rfl⟩
  exact ⟨_, fd, _, ds, O, g_column_term T, F.kp, hb, hv⟩
abbrev N_place_term : List Str := ["table", "marked"]
theorem sc_place_term : FnScope N_place_term ["table", "marked"] (defScope s_place_term) := ⟨rfl, rfl, rfl, by decide +kernel, rfl, by decide +kernel, by decide +kernel⟩
theorem o_place_term (T : Tx K mg) : ∃ fd, FnOk P w K mg base C8.CX0 7 (He.ga K "place_term") fd ["table", "marked"] (spPlace (CT K)) ∧ FunD K "place_term" "place_term" (defArgs s_place_term) (defBody s_place_term) (defScope s_place_term) [.bl false] [] (He.ga K "place_term") fd := by
  obtain ⟨fd, F⟩ := f_place_term T
  have m_Term3 := m_Term3 (P := P) (w := w) (base := base) T
  have c_row_term := c_row_term (P := P) (w := w) (base := base) T
  refine ⟨fd, ok0 F sc_place_term (fun vs H Q E h => ?_) (fun cdv A outer s H vs Q E hr h => ?_), F⟩
  · obtain ⟨G, t, b, rfl, _⟩ := h
    rfl
  obtain ⟨G, t, b, rfl, hG, ht, q⟩ := h
  refine ⟨_, (pss_one (ps_ret (C8.pe_mk m_Term3 hr (by first | decide | omega) rfl (pa_cons pe_str (pa_cons pe_str (pa_cons (pe_lst (pa_cons (C8.pe_c c_row_term hr (by first | decide | omega) rfl (pa_cons (pv 0) (pa_cons (pv 1) pa_nil))) pa_nil)) pa_nil)))))), ?_⟩
  refine ⟨_, rfl, _, rfl, G, t, b, rfl, hG, ht, fun G1 H1 x s1 tx hx => ?_⟩
  refine ⟨by show 1 ≤ sizeLine; decide, fun l hl => ?_⟩
  have s2 := s1.loc (q := l) (o := .lst [.ref x]) (s1.free hl) (s1.gh.free hl)
  have e0 : ("" : Str) = S [] := by decide +kernel
  show ∀ x dx, _ → _ → _ → spInit K (CT K) [.ref x, .str "place", .str "", .ref l, .bl false] _ _ _
  rw [e0]
  refine make_term (so := .place) (w := []) (b := false) (pv := [.ref x]) (ts := [.mk .row t [] b]) s2.gh (.inl (SqL.of upd_same)) rfl (one_row tx) ⟨by simp, by simp, (fun u hu => by
    rw [List.mem_singleton.mp hu]; exact Nat.le_trans (row_txt t b ht) (by decide)), (fun _ h => by cases h)⟩ fun G' H' y s3 hy hny => ?_
  exact q G' H' y (s2.trans s3) hy (s2.free hny)
theorem c_place_term (T : Tx K mg) : C8.Cal P w K mg base 7 "place_term" (spPlace (CT K)) [] := by
  obtain ⟨fd, O, F⟩ := o_place_term (P := P) (w := w) (base := base) T
  obtain ⟨ds, hv, hb⟩ := F.binds1 (ps := ["table", "marked"]) 2 1 (by simp) (by rfl) fun _ _ _ _ _ _ _ us its hl hi => match us, its, hl, hi with | [_, _], [_], _, _ => ⟨_, rfl, rfl⟩
  exact ⟨_, fd, _, ds, O, g_place_term T, F.kp, hb, hv⟩
abbrev N_zero_term : List Str := []
theorem sc_zero_term : FnScope N_zero_term [] (defScope s_zero_term) := ⟨rfl, rfl, rfl, by decide +kernel, rfl, by decide +kernel, by decide +kernel⟩
theorem c_zero_term (T : Tx K mg) : C8.Cal P w K mg base 6 "zero_term" (spZero (CT K)) [] := by
  obtain ⟨fd, F⟩ := f_zero_term T
  have m_Term3 := m_Term3 (P := P) (w := w) (base := base) T
  refine mkCal F (g_zero_term T) (F.bindsN fun _ _ _ _ _ _ us hl => match us, hl with | [], _ => rfl) .nil sc_zero_term (fun vs H Q E h => ?_) (fun cdv A outer s H vs Q E hr h => ?_)
  · obtain ⟨G, rfl, _⟩ := h
    rfl
  obtain ⟨G, rfl, hG, q⟩ := h
  refine ⟨_, (pss_one (ps_ret (C8.pe_mk m_Term3 hr (by first | decide | omega) rfl (pa_cons pe_str (pa_cons pe_str (pa_cons (pe_lst pa_nil) pa_nil)))))), ?_⟩
  refine ⟨Nat.zero_le _, fun l hl => ?_⟩
  have s2 := (Step.refl hG).loc (p := none) (q := l) (o := .lst []) hl (hG.free hl)
  have e0 : ("" : Str) = S [] := by decide +kernel
  show ∀ x dx, _ → _ → _ → spInit K (CT K) [.ref x, .str "zero", .str "", .ref l, .bl false] _ _ _
  rw [e0]
  refine make_term (so := .zero) (w := []) (b := false) (pv := []) (ts := []) s2.gh (.inl (SqL.of upd_same)) rfl (fun i v t h => by cases h) ⟨by simp, by simp, (fun u hu => by cases hu), (fun h => by rcases h with h | h <;> cases h)⟩ fun G' H' y s3 hy hny => ?_
  exact q G' H' y (s2.trans s3) hy (s2.free hny)
end Pf
namespace Bs
open PySem PySem.Spec PyProof.Rows L2 SX
variable {P : Program} {w : World} {K : PySem.W.Frag} {mg : Str → Option Value} {base : Heap} {X : Cx}
theorem nox_of {X : Cx} {st : List Stmt} {R : TS → Prop} (h : ∃ t, PSs X.nox st t ∧ R t) : ∃ t, PSs X st t ∧ R t := let ⟨t, a, b⟩ := h
  ⟨t, a.nox, b⟩
/-- a def with a star, called by its name -/
structure CalR (P : Program) (w : World) (K : PySem.W.Frag) (mg : Str → Option Value) (base : Heap) (k : Nat) (x : Str) (sp : Sp) : Prop where
  ex : ∃ f : Addr, FnR P w K mg base C8.CX0 k f sp ∧ mg x = some (.ref f) ∧ PySem.W.keepIn K (.ref f) = true
theorem pe_r {k j : Nat} {x : Str} {sp : Sp} {p pos : Pos} {e : Expr} {es : List Expr} {t : TA} (c : CalR X.prog X.w X.K X.mg X.base k x sp) (hr : Room j X.A) (hk : k ≤ j) (hg : Gl X x) (ha : PA X (e :: es) t)
    (hdb : (x == ("__debug__" : Str)) = false := by decide) (he : starEach (e :: es) X.env = (false, eval e X.env) :: starEach es X.env := by rfl) (hpl : (backTo pos (starEach es X.env)).any (·.1) = false := by rfl) :
    PE X (.Call (.Name x p) (e :: es) [] pos) (fun σ H Q => t σ H fun vs H1 => sp vs H1 Q C8.E0) := by
  obtain ⟨f, F, hm, kp⟩ := c.ex
  refine ⟨fun pins s σ H Q I h => ?_⟩
  refine wpAny_Call_Name_kw (ld_glob I hg hm ?_ hdb)
  exact PySem.W.callWith_K (h₀ := X.base) I.ok.mod.kin kp (thn (ha.run pos pins s σ H _ I h) fun us s1 ⟨vs, H1, I1, r, q⟩ => ⟨I1.kIn, wpAny_call (run_fnR F (hr.mono hk) C8.pass0 I1 r q)⟩) he hpl
def spFn (so : So) (C : Addr) : Sp := fun vs H Q _ => ∃ (G : Hp) (p : Addr) (w : List Nat) (xs : List V) (ts : List Mt), vs = [.str (S w), .ref p] ∧ Same G H ∧ H p = some (.tup xs) ∧ xs.length = ts.length ∧ (∀ (i : Nat) (v : V) (t : Mt), xs[i]? = some v → ts[i]? = some t → TAt C G v t) ∧ Shp so w ts ∧
  ∀ (G' H' : Hp) (x : Addr), Step none G H G' H' → TAt C G' (.ref x) (.mk so w ts false) → H x = none → Q (.ref x) H'
/-- what such a call asks, from outside -/
def spFnR (so : So) (C : Addr) : Sp := fun vs H Q E => ∃ ws rest : List V, vs = ws ++ rest ∧ ws.length = 1 ∧ rest.length ≤ sizeLine ∧ ∀ p, H p = none → spFn so C (ws ++ [V.ref p]) (upd H p (.tup rest)) Q E
end Bs
namespace Pf
open PySem PySem.Spec PyProof.Rows L2 Bs SX
variable {P : Program} {w : World} {K : PySem.W.Frag} {mg : Str → Option Value} {base : Heap}
abbrev N_function_term : List Str := ["name", "parts"]
theorem sc_function_term : FnScope N_function_term ["name", "parts"] (defScope s_function_term) := ⟨rfl, rfl, rfl, by decide +kernel, rfl, by decide +kernel, by decide +kernel⟩
theorem r_function_term (T : Tx K mg) : CalR P w K mg base 6 "function_term" (spFnR .func (CT K)) := by
  obtain ⟨fd, F⟩ := f_function_term T
  have m_Term3 := m_Term3 (P := P) (w := w) (base := base) T
  obtain ⟨oc, od, dV, kV, doc, pm, an, cdv, ct, osl, rfl, lk, hcd, hD, _⟩ := F.ex
  obtain ⟨_, rfl⟩ | ⟨hne, _⟩ := hD
  rotate_left
  · exact absurd rfl hne
  refine ⟨_, StX.fn_star (ps := ["name"]) (pv := "parts") (N := N_function_term) (sp := spFn .func (CT K)) lk hcd sc_function_term StX.cxUp_none (fun us rest hl => match us, rest, hl with | [_], [], _ => rfl | [_], _ :: _, _ => rfl) (fun A outer s H vs Q E hr h => ?_), g_function_term T, F.kp⟩
  obtain ⟨G, p, w, xs, ts, rfl, hG, hp, hlen, hts, sh, q⟩ := h
  refine nox_of ⟨_, (pss_one (ps_ret (C8.pe_mk m_Term3 hr (by first | decide | omega) rfl (pa_cons pe_str (pa_cons (pv 0) (pa_cons (pv 1) pa_nil)))))), ?_⟩
  refine ⟨_, rfl, _, rfl, ?_⟩
  exact make_term (so := .func) (w := w) (b := false) (pv := xs) (ts := ts) hG (.inr (SqT.of hp)) hlen hts sh fun G' H' y s3 hy hny => q G' H' y s3 hy hny
abbrev N_rule_term : List Str := ["name", "parts"]
theorem sc_rule_term : FnScope N_rule_term ["name", "parts"] (defScope s_rule_term) := ⟨rfl, rfl, rfl, by decide +kernel, rfl, by decide +kernel, by decide +kernel⟩
theorem r_rule_term (T : Tx K mg) : CalR P w K mg base 6 "rule_term" (spFnR .rule (CT K)) := by
  obtain ⟨fd, F⟩ := f_rule_term T
  have m_Term3 := m_Term3 (P := P) (w := w) (base := base) T
  obtain ⟨oc, od, dV, kV, doc, pm, an, cdv, ct, osl, rfl, lk, hcd, hD, _⟩ := F.ex
  obtain ⟨_, rfl⟩ | ⟨hne, _⟩ := hD
  rotate_left
  · exact absurd rfl hne
  refine ⟨_, StX.fn_star (ps := ["name"]) (pv := "parts") (N := N_rule_term) (sp := spFn .rule (CT K)) lk hcd sc_rule_term StX.cxUp_none (fun us rest hl => match us, rest, hl with | [_], [], _ => rfl | [_], _ :: _, _ => rfl) (fun A outer s H vs Q E hr h => ?_), g_rule_term T, F.kp⟩
  obtain ⟨G, p, w, xs, ts, rfl, hG, hp, hlen, hts, sh, q⟩ := h
  refine nox_of ⟨_, (pss_one (ps_ret (C8.pe_mk m_Term3 hr (by first | decide | omega) rfl (pa_cons pe_str (pa_cons (pv 0) (pa_cons (pv 1) pa_nil)))))), ?_⟩
  refine ⟨_, rfl, _, rfl, ?_⟩
  exact make_term (so := .rule) (w := w) (b := false) (pv := xs) (ts := ts) hG (.inr (SqT.of hp)) hlen hts sh fun G' H' y s3 hy hny => q G' H' y s3 hy hny
abbrev N_Term_eq : List Str := ["self", "other"]
theorem sc_Term_eq : FnScope N_Term_eq ["self", "other"] (defScope s_Term_eq) := ⟨rfl, rfl, rfl, by decide +kernel, rfl, by decide +kernel, by decide +kernel⟩
theorem o_eq (T : Tx K mg) : ∃ fd, FnOk P w K mg base C8.CX0 1 (He.ma K (CT K) "__eq__") fd ["self", "other"] (spCmp (spEqT (CT K) K)) ∧ Binds K fd ["self", "other"] [] := by
  obtain ⟨fd, F⟩ := f_Term_eq T
  refine ⟨fd, ok0 F sc_Term_eq (fun vs H Q E h => ?_) (fun cdv A outer s H vs Q E hr h => ?_), F.bindsN fun _ _ _ _ _ _ us hl => match us, hl with | [_, _], _ => rfl⟩
  · obtain ⟨a, y, r, rfl, _⟩ := h
    rfl
  obtain ⟨a, y, r, rfl, ⟨G, m, hG, ha, hy⟩, q⟩ := h
  have C0 := cls_Term_ T
  have I0 := Hd.insB_ok (ex_0 T)
  have pe_g_Term : ∀ {X : Cx} {pos : Pos}, X.mg = mg → Gl X "Term" → PE X (.Name "Term" pos) (tC (.ref (CT K))) := fun h1 h2 => C8.pe_gc h2 ⟨_, by rw [h1]; exact g_Term T, rfl⟩
  refine ⟨_, (pss_one (ps_ret (pe_and (pe_callB (call_isiK' (K := K) rfl) (by rfl) (z_isinstance T) boot_isinstance (pa_cons (pv 1) (pa_cons (pe_g_Term rfl rfl) pa_nil))) (pe_one (pe_cmpR op_eq (pe_fldK (K := K) rfl (pv 0) (by rfl)) (pe_fldK (K := K) rfl (pv 1) (by rfl)) (nomark _)))))), ?_⟩
  obtain ⟨a1, dx, l, so, w, ts, b, e1, e2, e3⟩ := ha.obj
  cases e1
  rcases hy with ⟨m2, hm2, er⟩ | ⟨er, t, ht, ty⟩
  · obtain ⟨a2, dx2, l2, so2, w2, ts2, b2, f1, f2, f3⟩ := hm2.obj
    subst f1
    refine ⟨_, rfl, .ref a2, .ref (CT K), .ref (CT K), .ref (CT K), true, rfl, .own _, .base (.ins (hG _ _ f3) C0 I0.ha I0.hn I0.htk I0.hm), I0.me, true, rfl, iteT ?_⟩
    refine ⟨_, rfl, a, CT K, dx, _, _, rfl, hG _ _ e3, C0, noat_Term_text T, tf_text, _, rfl, a2, CT K, dx2, _, _, rfl, hG _ _ f3, C0, noat_Term_text T, tf_text, rfl, ?_⟩
    have e4 : decide (V.str (S m.txt) = V.str (S m2.txt)) = r := by
      rw [er]
      by_cases c : m.txt = m2.txt
      · rw [c, decide_eq_true rfl, decide_eq_true rfl]
      · rw [decide_eq_false c, decide_eq_false fun h => c (S_inj (V.str.inj h))]
    rw [e4]
    exact q
  · have kk := Hd.kitsB_ok (ex_1 T) ht
    refine ⟨_, rfl, y, .ref (CT K), .type t, .ref (CT K), false, rfl, .own _, ty, kk.1, false, rfl, iteF ?_⟩
    rw [← er]
    exact q
abbrev N_Term_str : List Str := ["self"]
theorem sc_Term_str : FnScope N_Term_str ["self"] (defScope s_Term_str) := ⟨rfl, rfl, rfl, by decide +kernel, rfl, by decide +kernel, by decide +kernel⟩
theorem o_str (T : Tx K mg) : ∃ fd, FnOk P w K mg base C8.CX0 1 (He.ma K (CT K) "__str__") fd ["self"] (spStr (spStrT (CT K))) ∧ Binds K fd ["self"] [] := by
  obtain ⟨fd, F⟩ := f_Term_str T
  refine ⟨fd, ok0 F sc_Term_str (fun vs H Q E h => ?_) (fun cdv A outer s H vs Q E hr h => ?_), F.bindsN fun _ _ _ _ _ _ us hl => match us, hl with | [_], _ => rfl⟩
  · obtain ⟨a, x, rfl, _⟩ := h
    rfl
  obtain ⟨a, x, rfl, ⟨G, m, hG, ha, ex⟩, q⟩ := h
  obtain ⟨a1, dx, l, so, w, ts, b, e1, e2, e3⟩ := ha.obj
  cases e1
  refine ⟨_, (pss_one (ps_ret (pe_callTy SkE.call_str_str (by rfl) (z_str T) boot_str (pa_cons (pe_fldK (K := K) rfl (pv 0) (by rfl)) pa_nil)))), ?_⟩
  refine ⟨_, rfl, a, CT K, dx, _, _, rfl, hG _ _ e3, cls_Term_ T, noat_Term_text T, tf_text, _, rfl, ?_⟩
  rw [← ex]
  exact q
theorem own_eq (T : Tx K mg) {X : Cx} (h1 : X.prog = P) (h2 : X.w = w) (h3 : X.K = K) (h4 : X.mg = mg) (h5 : X.base = base) : OwnE X 1 (CT K) (spEqT (CT K) K) := by
  subst h1 h2 h3 h4 h5
  obtain ⟨fd, O, b⟩ := o_eq (P := X.prog) (w := X.w) (base := X.base) T
  exact ⟨⟨_, fd, _, O, (meth_Term_eq T).at_, (meth_Term_eq T).fn, b⟩, (Hd.insB_ok (ex_0 T)).hm, He.eqO_ok (ex_3 T)⟩
theorem own_str (T : Tx K mg) {X : Cx} (h1 : X.prog = P) (h2 : X.w = w) (h3 : X.K = K) (h4 : X.mg = mg) (h5 : X.base = base) : OwnS X 1 (CT K) (spStrT (CT K)) := by
  subst h1 h2 h3 h4 h5
  obtain ⟨fd, O, b⟩ := o_str (P := X.prog) (w := X.w) (base := X.base) T
  exact ⟨⟨_, fd, _, O, (meth_Term_str T).at_, (meth_Term_str T).fn, b⟩⟩
end Pf
namespace Bs
open PySem PySem.Spec PyProof.Rows L2 SX
def swap2 {α : Type} : List α → List α
  | a :: b :: r => b :: a :: r
  | l => l
theorem vals_swap {zs : List V} {ws : List Value} (r : Vals zs ws) : Vals (swap2 zs) (swap2 ws) := by
  cases r with
  | nil => exact .nil
  | cons a r =>
    cases r with
    | nil => exact .cons a .nil
    | cons b r => exact .cons b (.cons a r)
end Bs
namespace Pf
open PySem PySem.Spec PyProof.Rows L2 Bs SX
variable {P : Program} {w : World} {K : PySem.W.Frag} {mg : Str → Option Value} {base : Heap}
theorem k_row_term (T : Tx K mg) : CalK P w K mg base 6 "row_term" (spRow (CT K)) ["marked", "table"] swap2 := by
  obtain ⟨fd, O, F⟩ := o_row_term (P := P) (w := w) (base := base) T
  obtain ⟨its, hb⟩ := F.kbindsD (ps := ["table", "marked"]) 0 ["marked", "table"] (fun us its ws => swap2 ws) (by simp) (fun _ _ r => vals_swap r) fun _ _ _ _ _ _ _ us its ws hl hi hw => match us, its, ws, hl, hi, hw with | [], [_], [_, _], _, _, _ => ⟨_, rfl, rfl⟩
  exact ⟨_, fd, _, _, O, g_row_term T, F.kp, hb⟩
theorem k_place_term (T : Tx K mg) : CalK P w K mg base 7 "place_term" (spPlace (CT K)) ["marked", "table"] swap2 := by
  obtain ⟨fd, O, F⟩ := o_place_term (P := P) (w := w) (base := base) T
  obtain ⟨its, hb⟩ := F.kbindsD (ps := ["table", "marked"]) 0 ["marked", "table"] (fun us its ws => swap2 ws) (by simp) (fun _ _ r => vals_swap r) fun _ _ _ _ _ _ _ us its ws hl hi hw => match us, its, ws, hl, hi, hw with | [], [_], [_, _], _, _, _ => ⟨_, rfl, rfl⟩
  exact ⟨_, fd, _, _, O, g_place_term T, F.kp, hb⟩
theorem k_column_term (T : Tx K mg) : CalK P w K mg base 7 "column_term" (spCol (CT K)) ["name", "table", "marked"] swap2 := by
  obtain ⟨fd, O, F⟩ := o_column_term (P := P) (w := w) (base := base) T
  obtain ⟨its, hb⟩ := F.kbindsD (ps := ["table", "name", "marked"]) 0 ["name", "table", "marked"] (fun us its ws => swap2 ws) (by simp) (fun _ _ r => vals_swap r) fun _ _ _ _ _ _ _ us its ws hl hi hw => match us, its, ws, hl, hi, hw with | [], [_], [_, _, _], _, _, _ => ⟨_, rfl, rfl⟩
  exact ⟨_, fd, _, _, O, g_column_term T, F.kp, hb⟩
theorem kk_Term (T : Tx K mg) : MakK P w K mg base 4 "Term" (CT K) (spInit K (CT K)) ["kind", "name", "parts", "marked"] := by
  obtain ⟨fd, O, F⟩ := o_init (P := P) (w := w) (base := base) T
  obtain ⟨its, hb⟩ := F.kbindsD (ps := ["self", "kind", "name", "parts", "marked"]) 1 ["kind", "name", "parts", "marked"] (fun us its ws => us ++ ws) (by simp) (fun r1 _ r2 => r1.append r2) fun _ _ _ _ _ _ _ us its ws hl hi hw => match us, its, ws, hl, hi, hw with | [_], [_], [_, _, _, _], _, _, _ => ⟨_, rfl, rfl⟩
  exact ⟨_, fd, _, _, mkr_Term_ T, O, g_Term T, hb⟩
end Pf
namespace Bs
open PySem PySem.Spec PyProof.Rows L2 SX
variable {P : Program} {w : World} {K : PySem.W.Frag} {mg : Str → Option Value} {base : Heap}
/-! ### lists item by item -/
inductive All2 {α β : Type} (R : α → β → Prop) : List α → List β → Prop where
  | nil : All2 R [] []
  | cons {a : α} {b : β} {as : List α} {bs : List β} (h : R a b) (t : All2 R as bs) : All2 R (a :: as) (b :: bs)
section
variable {α β : Type} {R R' : α → β → Prop}
theorem All2.len : ∀ {as : List α} {bs : List β}, All2 R as bs → as.length = bs.length
  | _, _, .nil => rfl
  | _, _, .cons _ t => congrArg Nat.succ t.len
theorem All2.mono (h : ∀ a b, R a b → R' a b) : ∀ {as : List α} {bs : List β}, All2 R as bs → All2 R' as bs
  | _, _, .nil => .nil
  | _, _, .cons r t => .cons (h _ _ r) (t.mono h)
theorem All2.app : ∀ {as as' : List α} {bs bs' : List β}, All2 R as bs → All2 R as' bs' → All2 R (as ++ as') (bs ++ bs')
  | _, _, _, _, .nil, t => t
  | _, _, _, _, .cons r s, t => .cons r (s.app t)
theorem All2.tak : ∀ {as : List α} {bs : List β} (n : Nat), All2 R as bs → All2 R (as.take n) (bs.take n)
  | _, _, 0, _ => .nil
  | _, _, n + 1, .nil => .nil
  | _, _, n + 1, .cons r t => .cons r (t.tak n)
theorem All2.drp : ∀ {as : List α} {bs : List β} (n : Nat), All2 R as bs → All2 R (as.drop n) (bs.drop n)
  | _, _, 0, t => t
  | _, _, n + 1, .nil => .nil
  | _, _, n + 1, .cons _ t => t.drp n
theorem All2.get : ∀ {as : List α} {bs : List β} {i : Nat} {a : α} {b : β}, All2 R as bs → as[i]? = some a → bs[i]? = some b → R a b
  | _, _, 0, _, _, .cons r _, h1, h2 => by cases h1; cases h2; exact r
  | _, _, i + 1, _, _, .cons _ t, h1, h2 => t.get (i := i) h1 h2
theorem All2.of : ∀ {as : List α} {bs : List β}, as.length = bs.length → (∀ (i : Nat) (a : α) (b : β), as[i]? = some a → bs[i]? = some b → R a b) → All2 R as bs
  | [], [], _, _ => .nil
  | a :: as, b :: bs, hl, h => .cons (h 0 a b rfl rfl) (All2.of (Nat.succ.inj hl) fun i x y h1 h2 => h (i + 1) x y h1 h2)
end
theorem MAt.parts {G : Hp} {v : V} {so : So} {w : List Nat} {ts : List Mt} {b : Bool} (h : MAt G v (.mk so w ts b)) : ∃ (a p : Addr) (vs : List V), v = .ref a ∧ G a = some (.tup [.str so.s, .str (S w), .ref p, .bl b]) ∧ G p = some (.tup vs) ∧ All2 (MAt G) vs ts := by
  cases h with
  | @mk a p so w vs ts b ha hp hl h => exact ⟨a, p, vs, rfl, ha, hp, .of hl h⟩
theorem MAt.of {G : Hp} {a p : Addr} {so : So} {w : List Nat} {vs : List V} {ts : List Mt} {b : Bool} (ha : G a = some (.tup [.str so.s, .str (S w), .ref p, .bl b])) (hp : G p = some (.tup vs)) (h : All2 (MAt G) vs ts) : MAt G (.ref a) (.mk so w ts b) :=
  .mk ha hp h.len fun i v t h1 h2 => h.get h1 h2
/-! ### which terms are drawn -/
inductive IsRow : Mt → Prop where
  | mk {w : List Nat} {b : Bool} (h : NameOk (S w)) : IsRow (.mk .row w [] b)
inductive IsVal : Nat → Mt → Prop where
  | col {n : Nat} {w : List Nat} {r : Mt} (h : NameOk (S w)) (hr : IsRow r) : IsVal n (.mk .column w [r] false)
  | fn {n : Nat} {w : List Nat} {ts : List Mt} (h : NameOk (S w)) (h1 : 1 ≤ ts.length) (h3 : ts.length ≤ 3) (hs : ∀ t ∈ ts, IsVal n t) : IsVal (n + 1) (.mk .func w ts false)
theorem IsVal.up : ∀ {n m : Nat} {t : Mt}, IsVal n t → n ≤ m → IsVal m t := fun {n m t} h => by
  induction h generalizing m with
  | col h hr => exact fun _ => .col h hr
  | @fn n w ts h h1 h3 hs ih =>
    intro hm
    cases m with
    | zero => exact absurd hm (by omega)
    | succ m => exact .fn h h1 h3 fun t ht => ih t ht (by omega)
inductive IsTerm : Mt → Prop where
  | row {t : Mt} (h : IsRow t) : IsTerm t
  | place {r : Mt} (h : IsRow r) : IsTerm (.mk .place [] [r] false)
  | zero : IsTerm (.mk .zero [] [] false)
  | val {t : Mt} (h : IsVal 8 t) : IsTerm t
  | rule {w : List Nat} {ts : List Mt} (h : NameOk (S w)) (h1 : 1 ≤ ts.length) (h3 : ts.length ≤ 3) (hs : ∀ t ∈ ts, IsVal 8 t) : IsTerm (.mk .rule w ts false)
/-- the four lists of names -/
def Lot (G : Hp) (v : V) : Prop := ∃ (a a0 a1 a2 a3 : Addr) (n0 n1 n2 n3 : List Str), v = .ref a ∧ G a = some (.lst [.ref a0, .ref a1, .ref a2, .ref a3]) ∧ G a0 = some (.lst (n0.map V.str)) ∧ G a1 = some (.lst (n1.map V.str)) ∧ G a2 = some (.lst (n2.map V.str)) ∧ G a3 = some (.lst (n3.map V.str)) ∧
  (n0.length = 3 ∧ n1.length = 4 ∧ n2.length = 3 ∧ n3.length = 2) ∧ ∀ x, x ∈ n0 ∨ x ∈ n1 ∨ x ∈ n2 ∨ x ∈ n3 → NameOk x
theorem Lot.same {G G' : Hp} {v : V} (h : Lot G v) (s : Same G G') : Lot G' v := by
  obtain ⟨a, a0, a1, a2, a3, n0, n1, n2, n3, h1, h2, h3, h4, h5, h6, h7⟩ := h
  exact ⟨a, a0, a1, a2, a3, n0, n1, n2, n3, h1, s _ _ h2, s _ _ h3, s _ _ h4, s _ _ h5, s _ _ h6, h7⟩
theorem at_str {ns : List Str} {k : Int} (h0 : 0 ≤ k) (h1 : k < (ns.length : Nat)) : ∃ x : Str, atI (ns.map V.str) k = some (.str (S x.cps.toList)) ∧ x ∈ ns := by
  obtain ⟨v, e, hv, _⟩ := atI_of (xs := ns.map V.str) h0 (by rw [List.length_map]; exact h1)
  obtain ⟨x, hx, rfl⟩ := List.mem_map.mp hv
  exact ⟨x, by rw [S_tl]; exact e, hx⟩
def spLot (K : PySem.W.Frag) : Sp := fun vs H Q _ => ∃ (G : Hp) (p : Addr) (n : Nat), vs = [.ref p] ∧ Ps K G H p n ∧ n ≤ 800000 ∧ ∀ (G' H' : Hp) (v : V), Step (some p) G H G' H' → Ps K G' H' p (n + 16) → Lot G' v → Q v H'
def spMod (K : PySem.W.Frag) (c : Nat) (good : Mt → Prop) : Sp := fun vs H Q _ => ∃ (G : Hp) (p : Addr) (n : Nat) (lo : V), vs = [.ref p, lo] ∧ Ps K G H p n ∧ n + 10 * c ≤ 900000 ∧ Lot G lo ∧
  ∀ (G' H' : Hp) (v : V) (m : Mt), Step (some p) G H G' H' → Ps K G' H' p (n + c) → MAt G' v m → good m → Q v H'
end Bs
namespace Pf
open PySem PySem.Spec PyProof.Rows L2 Bs SX
variable {P : Program} {w : World} {K : PySem.W.Frag} {mg : Str → Option Value} {base : Heap}
abbrev N_Llot : List Str := ["_law_pen_here", "_law_names_here"]
theorem sc_Llot : FnScope N_Llot ["_law_pen_here"] (defScope s_Llot) := ⟨rfl, rfl, rfl, by decide +kernel, rfl, by decide +kernel, by decide +kernel⟩
theorem c_Llot (T : Tx K mg) : C8.Cal P w K mg base 4 "_law_lot" (spLot K) [] := by
  obtain ⟨fd, F⟩ := f_Llot T
  have c_Ldraw := c_Ldraw (P := P) (w := w) (base := base) T
  have c_Lnames := c_Lnames (P := P) (w := w) (base := base) T
  refine mkCal F (g_law_lot T) (F.bindsN fun _ _ _ _ _ _ us hl => match us, hl with | [_], _ => rfl) .nil sc_Llot (fun vs H Q E h => ?_) (fun cdv A outer s H vs Q E hr h => ?_)
  · obtain ⟨G, p, n, rfl, _⟩ := h
    rfl
  obtain ⟨G, p, n, rfl, hP, hn, q⟩ := h
  refine ⟨_, (pss_cons (ps_set (i := 1) sc_Llot.nd rfl (Or.inl rfl) (C8.pe_c c_Lnames hr (by first | decide | omega) rfl (pa_cons (pv 0) (pa_cons pe_int pa_nil))))
    (pss_cons (ps_if (pt_cmpR op_eq (C8.pe_c c_Ldraw hr (by first | decide | omega) rfl (pa_cons (pv 0) (pa_cons pe_int pa_nil))) pe_int (nomark _)) (pss_one (ps_ret (pe_lst (pa_cons (pe_slice sl_list (pv 1) po_none (po_some pe_int)) (pa_cons (pe_slice sl_list (pv 1) po_none (po_some pe_int)) (pa_cons (pe_slice sl_list (pv 1) po_none (po_some pe_int)) (pa_cons (pe_slice sl_list (pv 1) po_none (po_some pe_int)) pa_nil))))))) pss_nil)
    (pss_one (ps_ret (pe_lst (pa_cons (pe_slice sl_list (pv 1) po_none (po_some pe_int)) (pa_cons (pe_slice sl_list (pv 1) (po_some pe_int) (po_some pe_int)) (pa_cons (pe_slice sl_list (pv 1) (po_some pe_int) (po_some pe_int)) (pa_cons (pe_slice sl_list (pv 1) (po_some pe_int) po_none) pa_nil))))))))), ?_⟩
  refine ⟨_, rfl, p, n, 12, rfl, hP.pen, by omega, by decide, fun l ws H1 k1 hl0 P1 hl1 len ok nd => ?_⟩
  refine ⟨_, rfl, p, _, 2, rfl, P1, by omega, by decide, by decide, fun d H2 k2 P2 a2 b2 => ⟨rfl, _, rfl, ?_⟩⟩
  have hlp := P1.nel hl1
  have hl2 := k2 _ _ hl1 hlp
  have s0 : Step (some p) G H G H2 := Kp.step (k1.trans k2) hP.gh hP.out fun _ => P2.there
  have p0 : Ps K G H2 p (n + 16) := (hP.step s0 P2).mono (by omega)
  match ws, len, ok, hl2 with
  | [x0, x1, x2, x3, x4, x5, x6, x7, x8, x9, x10, x11], _, ok, hl2 =>
  have fin : ∀ (q0 q1 q2 q3 q : Addr) (n0 n1 n2 n3 : List Str) (h0 : H2 q0 = none) (h1 : upd H2 q0 (.lst (n0.map V.str)) q1 = none) (h2 : upd (upd H2 q0 (.lst (n0.map V.str))) q1 (.lst (n1.map V.str)) q2 = none) (h3 : upd (upd (upd H2 q0 (.lst (n0.map V.str))) q1 (.lst (n1.map V.str))) q2 (.lst (n2.map V.str)) q3 = none)
      (h4 : upd (upd (upd (upd H2 q0 (.lst (n0.map V.str))) q1 (.lst (n1.map V.str))) q2 (.lst (n2.map V.str))) q3 (.lst (n3.map V.str)) q = none),
      (n0.length = 3 ∧ n1.length = 4 ∧ n2.length = 3 ∧ n3.length = 2) → (∀ x, x ∈ n0 ∨ x ∈ n1 ∨ x ∈ n2 ∨ x ∈ n3 → NameOk x) → Q (.ref q) (upd (upd (upd (upd (upd H2 q0 (.lst (n0.map V.str))) q1 (.lst (n1.map V.str))) q2 (.lst (n2.map V.str))) q3 (.lst (n3.map V.str))) q (.lst [.ref q0, .ref q1, .ref q2, .ref q3])) := by
    intro q0 q1 q2 q3 q' n0 n1 n2 n3 h0 h1 h2 h3 h4 hl hok
    obtain ⟨t0, r0⟩ := p0.new_ (o := .lst (n0.map V.str)) h0
    obtain ⟨t1, r1⟩ := r0.new_ (o := .lst (n1.map V.str)) h1
    obtain ⟨t2, r2⟩ := r1.new_ (o := .lst (n2.map V.str)) h2
    obtain ⟨t3, r3⟩ := r2.new_ (o := .lst (n3.map V.str)) h3
    obtain ⟨t4, r4⟩ := r3.new_ (o := .lst [.ref q0, .ref q1, .ref q2, .ref q3]) h4
    refine q _ _ (.ref q') (((((s0.trans t0).trans t1).trans t2).trans t3).trans t4) r4 ⟨q', q0, q1, q2, q3, n0, n1, n2, n3, rfl, upd_same, t4.gg _ _ (t3.gg _ _ (t2.gg _ _ (t1.gg _ _ upd_same))), t4.gg _ _ (t3.gg _ _ (t2.gg _ _ upd_same)), t4.gg _ _ (t3.gg _ _ upd_same), t4.gg _ _ upd_same, hl, hok⟩
  have kk : ∀ {H : Hp} {q : Addr} {o o' : HO}, H l = some o → H q = none → upd H q o' l = some o := fun h1 h2 => by rw [upd_ne (ne_of_none h1 h2)]; exact h1
  refine ite2 (fun _ => ?_) (fun _ => ?_)
  · refine ⟨_, rfl, _, rfl, l, _, rfl, SqL.of hl2, fun q0 h0 => ?_⟩
    refine ⟨_, rfl, _, rfl, l, _, rfl, SqL.of (kk hl2 h0), fun q1 h1 => ?_⟩
    refine ⟨_, rfl, _, rfl, l, _, rfl, SqL.of (kk (kk hl2 h0) h1), fun q2 h2 => ?_⟩
    refine ⟨_, rfl, _, rfl, l, _, rfl, SqL.of (kk (kk (kk hl2 h0) h1) h2), fun q3 h3 => ?_⟩
    refine ⟨by show 4 ≤ sizeLine; decide, fun q4 h4 => ?_⟩
    exact fin q0 q1 q2 q3 q4 [x0, x1, x2] [x0, x1, x2, x3] [x0, x1, x2] [x0, x1] h0 h1 h2 h3 h4 ⟨rfl, rfl, rfl, rfl⟩ (fun x hx => ok x (by simp at hx ⊢; grind))
  · refine ⟨_, rfl, _, rfl, l, _, rfl, SqL.of hl2, fun q0 h0 => ?_⟩
    refine ⟨_, rfl, _, rfl, _, rfl, l, _, rfl, SqL.of (kk hl2 h0), fun q1 h1 => ?_⟩
    refine ⟨_, rfl, _, rfl, _, rfl, l, _, rfl, SqL.of (kk (kk hl2 h0) h1), fun q2 h2 => ?_⟩
    refine ⟨_, rfl, _, rfl, l, _, rfl, SqL.of (kk (kk (kk hl2 h0) h1) h2), fun q3 h3 => ?_⟩
    refine ⟨by show 4 ≤ sizeLine; decide, fun q4 h4 => ?_⟩
    exact fin q0 q1 q2 q3 q4 [x0, x1, x2] [x3, x4, x5, x6] [x7, x8, x9] [x10, x11] h0 h1 h2 h3 h4 ⟨rfl, rfl, rfl, rfl⟩ (fun x hx => ok x (by simp at hx ⊢; grind))
abbrev N_Lrow : List Str := ["_law_pen_here", "_law_lot_here"]
theorem sc_Lrow : FnScope N_Lrow ["_law_pen_here", "_law_lot_here"] (defScope s_Lrow) := ⟨rfl, rfl, rfl, by decide +kernel, rfl, by decide +kernel, by decide +kernel⟩
theorem c_Lrow (T : Tx K mg) : C8.Cal P w K mg base 2 "_law_row" (spMod K 2 IsRow) [] := by
  obtain ⟨fd, F⟩ := f_Lrow T
  have c_Ldraw := c_Ldraw (P := P) (w := w) (base := base) T
  refine mkCal F (g_law_row T) (F.bindsN fun _ _ _ _ _ _ us hl => match us, hl with | [_, _], _ => rfl) .nil sc_Lrow (fun vs H Q E h => ?_) (fun cdv A outer s H vs Q E hr h => ?_)
  · obtain ⟨G, p, n, lo, rfl, _⟩ := h
    rfl
  obtain ⟨G, p, n, lo, rfl, hP, hn, hlo, q⟩ := h
  refine ⟨_, (pss_one (ps_ret (pe_tup (pa_cons pe_str (pa_cons (pe_ix (ix_listK (K := K) rfl) (pe_ix (ix_listK (K := K) rfl) (pv 1) pe_int (fun _ _ => rfl)) (C8.pe_c c_Ldraw hr (by first | decide | omega) rfl (pa_cons (pv 0) (pa_cons pe_int pa_nil))) (fun _ _ => rfl)) (pa_cons (pe_tup pa_nil) (pa_cons (pe_cmpR op_eq (C8.pe_c c_Ldraw hr (by first | decide | omega) rfl (pa_cons (pv 0) (pa_cons pe_int pa_nil))) pe_int (nomark _)) pa_nil))))))), ?_⟩
  obtain ⟨a, a0, a1, a2, a3, n0, n1, n2, n3, rfl, g, g0, g1, g2, g3, ⟨l0, l1, l2, l3⟩, ok⟩ := id hlo
  refine ⟨_, rfl, a, _, 0, .ref a0, rfl, rfl, SqL.of (hP.gh _ _ g), atI_nat (j := 0) rfl, ?_⟩
  refine ⟨_, rfl, p, n, 3, rfl, hP.pen, by omega, by decide, by decide, fun d H1 k1 P1 b1 b2 => ?_⟩
  obtain ⟨s1, p1⟩ := hP.draw k1 P1
  obtain ⟨x, hx, mx⟩ := at_str (ns := n0) b1 (by rw [l0]; exact b2)
  refine ⟨a0, _, d, _, rfl, rfl, SqL.of (s1.gh _ _ g0), hx, ?_⟩
  refine ⟨Nat.zero_le _, fun t0 h0 => ?_⟩
  obtain ⟨s2, p2⟩ := p1.new_ (o := .tup []) h0
  refine ⟨_, rfl, p, n + 1, 2, rfl, p2.pen, by omega, by decide, by decide, fun d2 H2 k2 P2 b3 b4 => ⟨rfl, ?_⟩⟩
  obtain ⟨s3, p3⟩ := p2.draw k2 P2
  refine ⟨by show 4 ≤ sizeLine; decide, fun t h => ?_⟩
  obtain ⟨s4, p4⟩ := p3.new_ (o := .tup [.str "row", .str (S x.cps.toList), .ref t0, .bl (decide (V.int d2 = V.int 0))]) h
  refine q _ _ (.ref t) (.mk .row x.cps.toList [] (decide (V.int d2 = V.int 0))) (((s1.trans s2).trans s3).trans s4) (p4.mono (by omega)) (.of (p := t0) (vs := []) upd_same (s4.gg _ _ (s3.gg _ _ upd_same)) .nil) (.mk (by rw [S_tl]; exact ok x (.inl mx)))
abbrev N_Lcolumn : List Str := ["_law_pen_here", "_law_lot_here"]
theorem sc_Lcolumn : FnScope N_Lcolumn ["_law_pen_here", "_law_lot_here"] (defScope s_Lcolumn) := ⟨rfl, rfl, rfl, by decide +kernel, rfl, by decide +kernel, by decide +kernel⟩
theorem c_Lcolumn (T : Tx K mg) : C8.Cal P w K mg base 3 "_law_column" (spMod K 3 (IsVal 0)) [] := by
  obtain ⟨fd, F⟩ := f_Lcolumn T
  have c_Ldraw := c_Ldraw (P := P) (w := w) (base := base) T
  have c_Lrow := c_Lrow (P := P) (w := w) (base := base) T
  refine mkCal F (g_law_column T) (F.bindsN fun _ _ _ _ _ _ us hl => match us, hl with | [_, _], _ => rfl) .nil sc_Lcolumn (fun vs H Q E h => ?_) (fun cdv A outer s H vs Q E hr h => ?_)
  · obtain ⟨G, p, n, lo, rfl, _⟩ := h
    rfl
  obtain ⟨G, p, n, lo, rfl, hP, hn, hlo, q⟩ := h
  refine ⟨_, (pss_one (ps_ret (pe_tup (pa_cons pe_str (pa_cons (pe_ix (ix_listK (K := K) rfl) (pe_ix (ix_listK (K := K) rfl) (pv 1) pe_int (fun _ _ => rfl)) (C8.pe_c c_Ldraw hr (by first | decide | omega) rfl (pa_cons (pv 0) (pa_cons pe_int pa_nil))) (fun _ _ => rfl)) (pa_cons (pe_tup (pa_cons (C8.pe_c c_Lrow hr (by first | decide | omega) rfl (pa_cons (pv 0) (pa_cons (pv 1) pa_nil))) pa_nil)) (pa_cons pe_bl pa_nil))))))), ?_⟩
  obtain ⟨a, a0, a1, a2, a3, n0, n1, n2, n3, rfl, g, g0, g1, g2, g3, ⟨l0, l1, l2, l3⟩, ok⟩ := id hlo
  refine ⟨_, rfl, a, _, 1, .ref a1, rfl, rfl, SqL.of (hP.gh _ _ g), atI_nat (j := 1) rfl, ?_⟩
  refine ⟨_, rfl, p, n, 4, rfl, hP.pen, by omega, by decide, by decide, fun d H1 k1 P1 b1 b2 => ?_⟩
  obtain ⟨s1, p1⟩ := hP.draw k1 P1
  obtain ⟨x, hx, mx⟩ := at_str (ns := n1) b1 (by rw [l1]; exact b2)
  refine ⟨a1, _, d, _, rfl, rfl, SqL.of (s1.gh _ _ g1), hx, ?_⟩
  refine ⟨_, rfl, _, rfl, G, p, n + 1, _, rfl, p1, by omega, hlo.same s1.gg, fun G2 H2 v m s2 p2 hm hr' => ?_⟩
  refine ⟨by show 1 ≤ sizeLine; decide, fun t0 h0 => ?_⟩
  obtain ⟨s3, p3⟩ := p2.new_ (o := .tup [v]) h0
  refine ⟨by show 4 ≤ sizeLine; decide, fun t h => ?_⟩
  obtain ⟨s4, p4⟩ := p3.new_ (o := .tup [.str "column", .str (S x.cps.toList), .ref t0, .bl false]) h
  exact q _ _ (.ref t) (.mk .column x.cps.toList [m] false) (((s1.trans s2).trans s3).trans s4) (p4.mono (by omega)) (.of (p := t0) (vs := [v]) upd_same (s4.gg _ _ upd_same) (.cons (hm.same (s3.gg.trans s4.gg)) .nil)) (.col (by rw [S_tl]; exact ok x (.inr (.inl mx))) hr')
end Pf
namespace Bs
open PySem PySem.Spec PyProof.Rows L2 SX
variable {P : Program} {w : World} {K : PySem.W.Frag} {mg : Str → Option Value} {base : Heap}
def spVal (K : PySem.W.Frag) : Sp := fun vs H Q _ => ∃ (G : Hp) (p : Addr) (n : Nat) (lo : V) (lv : Nat), vs = [.ref p, lo, .int (lv : Nat)] ∧ Ps K G H p n ∧ n ≤ 890000 ∧ lv ≤ 7 ∧ Lot G lo ∧
  ∀ (G' H' : Hp) (v : V) (m : Mt), Step (some p) G H G' H' → Ps K G' H' p (n + 115) → MAt G' v m → IsVal 8 m → Q v H'
theorem Ps.put {G H : Hp} {p q : Addr} {n : Nat} {o : HO} {xs : List V} (a : Ps K G H p n) (h : H q = some (.lst xs)) (gq : G q = none) : Ps K G (upd H q o) p n := ⟨Same.off a.gh gq, a.out, a.pen.put h⟩
theorem MAts.same {G G' : Hp} (s : Same G G') {vs : List V} {ts : List Mt} (h : All2 (MAt G) vs ts) : All2 (MAt G') vs ts := h.mono fun _ _ r => r.same s
end Bs
namespace Pf
open PySem PySem.Spec PyProof.Rows L2 Bs SX
variable {P : Program} {w : World} {K : PySem.W.Frag} {mg : Str → Option Value} {base : Heap}
abbrev N_Lvalue : List Str := ["_law_pen_here", "_law_lot_here", "_law_levels", "_law_value_here", "_law_k", "_law_parts", "_law_turn", "_law_more"]
theorem sc_Lvalue : FnScope N_Lvalue ["_law_pen_here", "_law_lot_here", "_law_levels"] (defScope s_Lvalue) := ⟨rfl, rfl, rfl, by decide +kernel, rfl, by decide +kernel, by decide +kernel⟩
theorem c_Lvalue (T : Tx K mg) : C8.Cal P w K mg base 4 "_law_value" (spVal K) [] := by
  obtain ⟨fd, F⟩ := f_Lvalue T
  have c_Ldraw := c_Ldraw (P := P) (w := w) (base := base) T
  have c_Lcolumn := c_Lcolumn (P := P) (w := w) (base := base) T
  refine mkCal F (g_law_value T) (F.bindsN fun _ _ _ _ _ _ us hl => match us, hl with | [_, _, _], _ => rfl) .nil sc_Lvalue (fun vs H Q E h => ?_) (fun cdv A outer s H vs Q E hr h => ?_)
  · obtain ⟨G, p, n, lo, lv, rfl, _⟩ := h
    rfl
  obtain ⟨G, p, n, lo, lv, rfl, hP, hn, hlv, hlo, q⟩ := h
  have sl : sizeLine = 16777216 := rfl
  refine ⟨_, (pss_cons (ps_set (i := 3) sc_Lvalue.nd rfl (Or.inl rfl) (C8.pe_c c_Lcolumn hr (by first | decide | omega) rfl (pa_cons (pv 0) (pa_cons (pv 1) pa_nil))))
    (pss_cons (ps_for PassesOwn.never rfl (pi_range1 (by rfl) (z_range T) (pa_cons (pv 2) pa_nil)) (pg_name (i := 4) sc_Lvalue.nd rfl (Or.inl rfl)) (pss_cons (ps_set (i := 5) sc_Lvalue.nd rfl (Or.inl rfl) (pe_lst (pa_cons (pv 3) pa_nil)))
    (pss_cons (ps_for PassesOwn.never rfl (pi_range1 (by rfl) (z_range T) (pa_cons (C8.pe_c c_Ldraw hr (by first | decide | omega) rfl (pa_cons (pv 0) (pa_cons pe_int pa_nil))) pa_nil)) (pg_name (i := 6) sc_Lvalue.nd rfl (Or.inl rfl)) (pss_cons (ps_set (i := 7) sc_Lvalue.nd rfl (Or.inl rfl) (C8.pe_c c_Lcolumn hr (by first | decide | omega) rfl (pa_cons (pv 0) (pa_cons (pv 1) pa_nil))))
    (C8.pss_cut (ps_if (PW.pt (pw_and (pt_cmpR op_lt (pv 2) pe_int (nomark _)) (pw_and1 (pt_cmpR op_eq (C8.pe_c c_Ldraw hr (by first | decide | omega) rfl (pa_cons (pv 0) (pa_cons pe_int pa_nil))) pe_int (nomark _))))) (pss_one (ps_set (i := 7) sc_Lvalue.nd rfl (Or.inl rfl) (pe_tup (pa_cons pe_str (pa_cons (pe_ix (ix_listK (K := K) rfl) (pe_ix (ix_listK (K := K) rfl) (pv 1) pe_int (fun _ _ => rfl)) (C8.pe_c c_Ldraw hr (by first | decide | omega) rfl (pa_cons (pv 0) (pa_cons pe_int pa_nil))) (fun _ _ => rfl)) (pa_cons (pe_tup (pa_cons (pv 7) pa_nil)) (pa_cons pe_bl pa_nil))))))) pss_nil)
    (pss_one (ps_expr (pe_bm PySem.F.plainAttrs_list PySem.F.slot_list_insert PySem.F.type_list_insert mt_insert (pv 5) (pa_cons (C8.pe_c c_Ldraw hr (by first | decide | omega) rfl (pa_cons (pv 0) (pa_cons (pe_op op_add (pe_callB (call_len_seqK (K := K) rfl) (by rfl) (z_len T) boot_len (pa_cons (pv 5) pa_nil)) pe_int) pa_nil))) (pa_cons (pv 7) pa_nil))))))))
    (pss_one (ps_set (i := 3) sc_Lvalue.nd rfl (Or.inl rfl) (pe_tup (pa_cons pe_str (pa_cons (pe_ix (ix_listK (K := K) rfl) (pe_ix (ix_listK (K := K) rfl) (pv 1) pe_int (fun _ _ => rfl)) (C8.pe_c c_Ldraw hr (by first | decide | omega) rfl (pa_cons (pv 0) (pa_cons pe_int pa_nil))) (fun _ _ => rfl)) (pa_cons (pe_callTy call_tuple_of (by rfl) (z_tuple T) boot_tuple (pa_cons (pv 5) pa_nil)) (pa_cons pe_bl pa_nil))))))))))
    (pss_one (ps_ret (pv 3))))), ?_⟩
  refine ⟨_, rfl, _, rfl, G, p, n, lo, rfl, hP, by omega, hlo, fun G1 H1 v1 m1 s1 p1 hm1 hv1 => ?_⟩
  refine ⟨_, rfl, (lv : Int), rfl, by omega, by omega, ?_⟩
  refine for_range (lo := 0) (n := ((lv : Nat) : Int).toNat) (fun j σ H' => ∃ (G' : Hp) (v : V) (m : Mt) (o4 o5 o6 o7 : Option V), σ = [some (.ref p), some lo, some (.int (lv : Nat)), some v, o4, o5, o6, o7] ∧ Step (some p) G H G' H' ∧ Ps K G' H' p (n + 3 + 16 * j) ∧ MAt G' v m ∧ IsVal (j + 1) m)
    ⟨G1, v1, m1, none, none, none, none, rfl, s1, p1, hm1, hv1.up (by omega)⟩ ?_ ?_
  · rintro j σ H' hj ⟨G', v, m, o4, o5, o6, o7, rfl, s', p', hm, hv⟩
    have hj7 : j < 7 := by omega
    -- pieces = [value]
    refine ⟨_, rfl, by show 1 ≤ sizeLine; decide, fun pc hpc => ?_⟩
    have hpc0 : H pc = none := s'.free hpc
    have hpcp := p'.pen.ne hpc
    have gpc : G' pc = none := s'.gh.free hpc
    have s2 : Step (some p) G H G' (upd H' pc (.lst [v])) := s'.loc hpc0 gpc
    have p2 : Ps K G' (upd H' pc (.lst [v])) p (n + 3 + 16 * j) := p'.stepN ((Step.refl s'.gh).loc hpc gpc)
    -- for turn in range(draw(pen, 3))
    refine ⟨_, rfl, p, n + 3 + 16 * j, 3, rfl, p2.pen, by omega, by decide, by decide, fun d H3 k3 P3 a3 b3 => ⟨d, rfl, by omega, by omega, ?_⟩⟩
    obtain ⟨s3, p3⟩ := p2.draw k3 P3
    have l3 : H3 pc = some (.lst [v]) := k3 _ _ upd_same hpcp
    refine for_range (lo := 0) (n := d.toNat) (fun i σ H4 => ∃ (G4 : Hp) (vs : List V) (ts : List Mt) (o6 o7 : Option V), σ = [some (.ref p), some lo, some (.int (lv : Nat)), some v, some (.int (0 + (j : Nat))), some (.ref pc), o6, o7] ∧ Step (some p) G H G4 H4 ∧ Ps K G4 H4 p (n + 4 + 16 * j + 6 * i) ∧
        H4 pc = some (.lst vs) ∧ G4 pc = none ∧ ts.length = i + 1 ∧ All2 (MAt G4) vs ts ∧ ∀ t ∈ ts, IsVal (j + 1) t)
      ⟨G', [v], [m], o6, o7, rfl, s2.trans s3, p3.mono (by omega), l3, gpc, rfl, .cons hm .nil, fun t ht => by rw [List.mem_singleton.mp ht]; exact hv⟩ ?_ ?_
    · rintro i σ H4 hi ⟨G4, vs, ts, o6, o7, rfl, s4, p4, l4, g4, ht4, hts, hvs⟩
      have hi3 : i < 2 := by omega
      -- more = column(pen, lot)
      refine ⟨_, rfl, _, rfl, G4, p, n + 4 + 16 * j + 6 * i, lo, rfl, p4, by omega, hlo.same s4.gg, fun G5 H5 v5 m5 s5 p5 hm5 hv5 => ?_⟩
      have l5 : H5 pc = some (.lst vs) := s5.kpc _ _ l4 hpcp
      have g5 : G5 pc = none := s5.out g4 (by rw [l4]; exact fun z => by cases z)
      -- if levels < 4 and draw(pen, 3) == 0
      refine ⟨fun σ' H6 => ∃ (G6 : Hp) (v6 : V) (m6 : Mt), σ' = [some (.ref p), some lo, some (.int (lv : Nat)), some v, some (.int (0 + (j : Nat))), some (.ref pc), some (.int (0 + (i : Nat))), some v6] ∧ Step (some p) G5 H5 G6 H6 ∧ Ps K G6 H6 p (n + 4 + 16 * j + 6 * i + 5) ∧ MAt G6 v6 m6 ∧ IsVal 1 m6, ?_, ?_⟩
      · refine ⟨_, rfl, _, _, rfl, rfl, _, rfl, ?_⟩
        refine ite2 (fun _ => ?_) (fun _ => iteF ⟨G5, v5, m5, rfl, Step.refl s5.gh, p5.mono (by omega), hm5, hv5.up (by omega)⟩)
        refine ⟨_, rfl, p, n + 4 + 16 * j + 6 * i + 3, 3, rfl, p5.pen, by omega, by decide, by decide, fun d6 H6 k6 P6 a6 b6 => ⟨rfl, _, rfl, ?_⟩⟩
        obtain ⟨s6, p6⟩ := p5.draw k6 P6
        refine ite2 (fun _ => ?_) (fun _ => ⟨G5, v5, m5, rfl, s6, p6.mono (by omega), hm5, hv5.up (by omega)⟩)
        obtain ⟨a, a0, a1, a2, a3', n0, n1, n2, n3, rfl, g, g0, g1, g2, g3, ⟨l0, l1, l2, l3'⟩, ok⟩ := id (hlo.same (s4.gg.trans s5.gg))
        refine ⟨_, rfl, a, _, 2, .ref a2, rfl, rfl, SqL.of (s6.gh _ _ g), atI_nat (j := 2) rfl, ?_⟩
        refine ⟨_, rfl, p, n + 4 + 16 * j + 6 * i + 3 + 1, 3, rfl, p6.pen, by omega, by decide, by decide, fun d7 H7 k7 P7 a7 b7 => ?_⟩
        obtain ⟨s7, p7⟩ := p6.draw k7 P7
        obtain ⟨x, hx, mx⟩ := at_str (ns := n2) a7 (by rw [l2]; exact b7)
        refine ⟨a2, _, d7, _, rfl, rfl, SqL.of (s7.gh _ _ g2), hx, ?_⟩
        refine ⟨_, rfl, by show 1 ≤ sizeLine; decide, fun t0 h0 => ?_⟩
        obtain ⟨s8, p8⟩ := p7.new_ (o := .tup [v5]) h0
        refine ⟨by show 4 ≤ sizeLine; decide, fun t h => ?_⟩
        obtain ⟨s9, p9⟩ := p8.new_ (o := .tup [.str "function", .str (S x.cps.toList), .ref t0, .bl false]) h
        exact ⟨_, _, .mk .func x.cps.toList [m5] false, rfl, ((s6.trans s7).trans s8).trans s9, p9.mono (by omega), .of (p := t0) (vs := [v5]) upd_same (s9.gg _ _ upd_same) (.cons (hm5.same (s8.gg.trans s9.gg)) .nil),
          .fn (by rw [S_tl]; exact ok x (.inr (.inr (.inl mx)))) (by simp) (by simp) fun u hu => by rw [List.mem_singleton.mp hu]; exact hv5⟩
      rintro σ' H6 ⟨G6, v6, m6, rfl, s6, p6, hm6, hv6⟩
      have l6 : H6 pc = some (.lst vs) := s6.kpc _ _ l5 hpcp
      have g6 : G6 pc = none := s6.out g5 (by rw [l5]; exact fun z => by cases z)
      have hvl : vs.length = i + 1 := by rw [hts.len]; exact ht4
      -- pieces.insert(draw(pen, len(pieces) + 1), more)
      refine ⟨_, rfl, .inl ⟨rfl, _, SqL.of l6⟩, _, rfl, _, rfl, pc, _, rfl, .inl (SqL.of l6), _, _, rfl, rfl, p, n + 4 + 16 * j + 6 * i + 5, ((vs.length : Nat) : Int) + 1, rfl, p6.pen, by omega, by omega, by omega, fun d7 H7 k7 P7 a7 b7 => ?_⟩
      obtain ⟨s7, p7⟩ := p6.draw k7 P7
      have l7 : H7 pc = some (.lst vs) := k7 _ _ l6 hpcp
      have sAll := ((s4.trans s5).trans s6).trans s7
      refine ⟨_, rfl, pc, vs, d7, v6, rfl, rfl, l7, by omega, a7, by omega, ?_⟩
      refine ⟨G6, vs.take d7.toNat ++ [v6] ++ vs.drop d7.toNat, ts.take d7.toNat ++ [m6] ++ ts.drop d7.toNat, _, _, rfl, sAll.loc hpc0 g6, (p7.put l7 g6).mono (by omega), upd_same, g6, ?_, ?_, ?_⟩
      · simp only [List.length_append, List.length_take, List.length_drop, List.length_singleton]; omega
      · have h6 := MAts.same (s5.gg.trans s6.gg) hts
        exact ((h6.tak _).app (.cons hm6 .nil)).app (h6.drp _)
      · intro t ht
        rw [List.mem_append, List.mem_append, List.mem_singleton] at ht
        rcases ht with (ht | ht) | ht
        · exact hvs t (List.mem_of_mem_take ht)
        · rw [ht]; exact hv6.up (by omega)
        · exact hvs t (List.mem_of_mem_drop ht)
    · rintro σ H4 ⟨G4, vs, ts, o6, o7, rfl, s4, p4, l4, g4, ht4, hts, hvs⟩
      have ed : ts.length = d.toNat + 1 := ht4
      obtain ⟨a, a0, a1, a2, a3', n0, n1, n2, n3, rfl, g, g0, g1, g2, g3, ⟨l0, l1, l2, l3'⟩, ok⟩ := id (hlo.same s4.gg)
      refine ⟨_, rfl, a, _, 2, .ref a2, rfl, rfl, SqL.of (s4.gh _ _ g), atI_nat (j := 2) rfl, ?_⟩
      refine ⟨_, rfl, p, n + 4 + 16 * j + 6 * d.toNat, 3, rfl, p4.pen, by omega, by decide, by decide, fun d7 H7 k7 P7 a7 b7 => ?_⟩
      obtain ⟨s7, p7⟩ := p4.draw k7 P7
      obtain ⟨x, hx, mx⟩ := at_str (ns := n2) a7 (by rw [l2]; exact b7)
      refine ⟨a2, _, d7, _, rfl, rfl, SqL.of (s7.gh _ _ g2), hx, ?_⟩
      have l7 : H7 pc = some (.lst vs) := k7 _ _ l4 hpcp
      refine ⟨_, rfl, pc, vs, rfl, .inl ⟨SqL.of l7, fun t0 h0 => ?_⟩⟩
      obtain ⟨s8, p8⟩ := p7.new_ (o := .tup vs) h0
      refine ⟨by show 4 ≤ sizeLine; decide, fun t h => ?_⟩
      obtain ⟨s9, p9⟩ := p8.new_ (o := .tup [.str "function", .str (S x.cps.toList), .ref t0, .bl false]) h
      exact ⟨_, _, .mk .func x.cps.toList ts false, _, _, _, _, rfl, ((s4.trans s7).trans s8).trans s9, p9.mono (by omega), .of (p := t0) (vs := vs) upd_same (s9.gg _ _ upd_same) (MAts.same (s8.gg.trans s9.gg) hts),
        .fn (by rw [S_tl]; exact ok x (.inr (.inr (.inl mx)))) (by omega) (by omega) hvs⟩
  · rintro σ H' ⟨G', v, m, o4, o5, o6, o7, rfl, s', p', hm, hv⟩
    have e : ((lv : Nat) : Int).toNat = lv := by omega
    rw [e] at p' hv
    exact ⟨_, rfl, q G' H' v m s' (p'.mono (by omega)) hm (hv.up (by omega))⟩
end Pf
namespace Bs
open PySem PySem.Spec PyProof.Rows L2 SX
variable {P : Program} {w : World} {K : PySem.W.Frag} {mg : Str → Option Value} {base : Heap}
def spTerm (K : PySem.W.Frag) : Sp := fun vs H Q _ => ∃ (G : Hp) (p : Addr) (n : Nat) (lo : V), vs = [.ref p, lo] ∧ Ps K G H p n ∧ n ≤ 880000 ∧ Lot G lo ∧
  ∀ (G' H' : Hp) (v : V) (m : Mt), Step (some p) G H G' H' → Ps K G' H' p (n + 140) → MAt G' v m → IsTerm m → Q v H'
end Bs
namespace Pf
open PySem PySem.Spec PyProof.Rows L2 Bs SX
variable {P : Program} {w : World} {K : PySem.W.Frag} {mg : Str → Option Value} {base : Heap}
abbrev N_Lterm : List Str := ["_law_pen_here", "_law_lot_here", "_law_kind", "_law_levels", "_law_parts", "_law_turn"]
theorem sc_Lterm : FnScope N_Lterm ["_law_pen_here", "_law_lot_here"] (defScope s_Lterm) := ⟨rfl, rfl, rfl, by decide +kernel, rfl, by decide +kernel, by decide +kernel⟩
theorem c_Lterm (T : Tx K mg) : C8.Cal P w K mg base 5 "_law_term" (spTerm K) [] := by
  obtain ⟨fd, F⟩ := f_Lterm T
  have c_Ldraw := c_Ldraw (P := P) (w := w) (base := base) T
  have c_Lrow := c_Lrow (P := P) (w := w) (base := base) T
  have c_Lcolumn := c_Lcolumn (P := P) (w := w) (base := base) T
  have c_Lvalue := c_Lvalue (P := P) (w := w) (base := base) T
  refine mkCal F (g_law_term T) (F.bindsN fun _ _ _ _ _ _ us hl => match us, hl with | [_, _], _ => rfl) .nil sc_Lterm (fun vs H Q E h => ?_) (fun cdv A outer s H vs Q E hr h => ?_)
  · obtain ⟨G, p, n, lo, rfl, _⟩ := h
    rfl
  obtain ⟨G, p, n, lo, rfl, hP, hn, hlo, q⟩ := h
  have sl : sizeLine = 16777216 := rfl
  have e0 : ("" : Str) = S [] := by decide +kernel
  refine ⟨_, (pss_cons (ps_set (i := 2) sc_Lterm.nd rfl (Or.inl rfl) (C8.pe_c c_Ldraw hr (by first | decide | omega) rfl (pa_cons (pv 0) (pa_cons pe_int pa_nil))))
    (pss_cons (ps_set (i := 3) sc_Lterm.nd rfl (Or.inl rfl) (pe_ix (ix_listK (K := K) rfl) (pe_lst (pa_cons pe_int (pa_cons pe_int (pa_cons pe_int (pa_cons pe_int (pa_cons pe_int (pa_cons pe_int pa_nil))))))) (C8.pe_c c_Ldraw hr (by first | decide | omega) rfl (pa_cons (pv 0) (pa_cons pe_int pa_nil))) (fun _ _ => rfl)))
    (pss_cons (ps_if (pt_cmpR op_eq (pv 2) pe_int (nomark _)) (pss_one (ps_ret (C8.pe_c c_Lrow hr (by first | decide | omega) rfl (pa_cons (pv 0) (pa_cons (pv 1) pa_nil))))) pss_nil)
    (pss_cons (ps_if (pt_cmpR op_eq (pv 2) pe_int (nomark _)) (pss_one (ps_ret (pe_tup (pa_cons pe_str (pa_cons pe_str (pa_cons (pe_tup (pa_cons (C8.pe_c c_Lrow hr (by first | decide | omega) rfl (pa_cons (pv 0) (pa_cons (pv 1) pa_nil))) pa_nil)) (pa_cons pe_bl pa_nil))))))) pss_nil)
    (pss_cons (ps_if (pt_cmpR op_eq (pv 2) pe_int (nomark _)) (pss_one (ps_ret (pe_tup (pa_cons pe_str (pa_cons pe_str (pa_cons (pe_tup pa_nil) (pa_cons pe_bl pa_nil))))))) pss_nil)
    (pss_cons (ps_if (pt_cmpR op_gt (pv 2) pe_int (nomark _)) (pss_one (ps_ret (C8.pe_c c_Lvalue hr (by first | decide | omega) rfl (pa_cons (pv 0) (pa_cons (pv 1) (pa_cons (pv 3) pa_nil)))))) pss_nil)
    (pss_cons (ps_set (i := 4) sc_Lterm.nd rfl (Or.inl rfl) (pe_lst (pa_cons (C8.pe_c c_Lvalue hr (by first | decide | omega) rfl (pa_cons (pv 0) (pa_cons (pv 1) (pa_cons (pv 3) pa_nil)))) pa_nil)))
    (pss_cons (ps_for PassesOwn.never rfl (pi_range1 (by rfl) (z_range T) (pa_cons (C8.pe_c c_Ldraw hr (by first | decide | omega) rfl (pa_cons (pv 0) (pa_cons (pe_ix (ix_listK (K := K) rfl) (pe_lst (pa_cons pe_int (pa_cons pe_int pa_nil))) (pe_callTy call_int1 (by rfl) (z_int T) boot_int (pa_cons (pe_cmpR op_gt (pv 3) pe_int (nomark _)) pa_nil)) (fun _ _ => rfl)) pa_nil))) pa_nil)) (pg_name (i := 5) sc_Lterm.nd rfl (Or.inl rfl)) (pss_one (ps_expr (pe_bm PySem.F.plainAttrs_list PySem.F.slot_list_insert PySem.F.type_list_insert mt_insert (pv 4) (pa_cons (C8.pe_c c_Ldraw hr (by first | decide | omega) rfl (pa_cons (pv 0) (pa_cons (pe_op op_add (pe_callB (call_len_seqK (K := K) rfl) (by rfl) (z_len T) boot_len (pa_cons (pv 4) pa_nil)) pe_int) pa_nil))) (pa_cons (C8.pe_c c_Lcolumn hr (by first | decide | omega) rfl (pa_cons (pv 0) (pa_cons (pv 1) pa_nil))) pa_nil))))))
    (pss_one (ps_ret (pe_tup (pa_cons pe_str (pa_cons (pe_ix (ix_listK (K := K) rfl) (pe_ix (ix_listK (K := K) rfl) (pv 1) pe_int (fun _ _ => rfl)) (C8.pe_c c_Ldraw hr (by first | decide | omega) rfl (pa_cons (pv 0) (pa_cons pe_int pa_nil))) (fun _ _ => rfl)) (pa_cons (pe_callTy call_tuple_of (by rfl) (z_tuple T) boot_tuple (pa_cons (pv 4) pa_nil)) (pa_cons pe_bl pa_nil))))))))))))))), ?_⟩
  refine ⟨_, rfl, p, n, 8, rfl, hP.pen, by omega, by decide, by decide, fun so H1 k1 P1 a1 b1 => ?_⟩
  obtain ⟨s1, p1⟩ := hP.draw k1 P1
  refine ⟨by show 6 ≤ sizeLine; decide, fun l hl => ?_⟩
  obtain ⟨s2, p2⟩ := p1.new_ (o := .lst (([0, 0, 1, 2, 3, 7] : List Int).map V.int)) hl
  refine ⟨_, rfl, p, n + 1, 6, rfl, p2.pen, by omega, by decide, by decide, fun d H2 k2 P2 a2 b2 => ?_⟩
  obtain ⟨s3, p3⟩ := p2.draw k2 P2
  obtain ⟨lvi, hlv, mlv⟩ := atI_int (ns := [0, 0, 1, 2, 3, 7]) a2 b2
  have blv : 0 ≤ lvi ∧ lvi ≤ 7 := by
    simp only [List.mem_cons, List.mem_nil_iff, or_false] at mlv
    omega
  obtain ⟨lv, rfl⟩ : ∃ k : Nat, lvi = (k : Nat) := ⟨lvi.toNat, by omega⟩
  refine ⟨l, ([0, 0, 1, 2, 3, 7] : List Int).map V.int, d, .int (lv : Nat), rfl, rfl, SqL.of (s3.gh _ _ upd_same), hlv, ?_⟩
  have st := (s1.trans s2).trans s3
  have ps : Ps K (upd G l (.lst (([0, 0, 1, 2, 3, 7] : List Int).map V.int))) H2 p (n + 2) := p3.mono (by omega)
  have hlo' := hlo.same st.gg
  generalize upd G l (.lst (([0, 0, 1, 2, 3, 7] : List Int).map V.int)) = G1 at st ps hlo'
  clear s1 s2 s3 p1 p2 p3
  -- sort == 0
  refine ⟨_, rfl, rfl, _, rfl, ite2 (fun _ => ?_) (fun _ => ?_)⟩
  · exact ⟨_, rfl, _, rfl, G1, p, n + 2, lo, rfl, ps, by omega, hlo', fun G2 H3 v m s p' hm hv => q G2 H3 v m (st.trans s) (p'.mono (by omega)) hm (.row hv)⟩
  -- sort == 1
  refine ⟨_, rfl, rfl, _, rfl, ite2 (fun _ => ?_) (fun _ => ?_)⟩
  · refine ⟨_, rfl, _, rfl, G1, p, n + 2, lo, rfl, ps, by omega, hlo', fun G2 H3 v m s p' hm hv => ?_⟩
    refine ⟨by show 1 ≤ sizeLine; decide, fun t0 h0 => ?_⟩
    obtain ⟨s8, p8⟩ := p'.new_ (o := .tup [v]) h0
    refine ⟨by show 4 ≤ sizeLine; decide, fun t h => ?_⟩
    obtain ⟨s9, p9⟩ := p8.new_ (o := .tup [.str "place", .str "", .ref t0, .bl false]) h
    exact q _ _ (.ref t) (.mk .place [] [m] false) (((st.trans s).trans s8).trans s9) (p9.mono (by omega)) (.of (p := t0) (vs := [v]) (by rw [← e0]; exact upd_same) (s9.gg _ _ upd_same) (.cons (hm.same (s8.gg.trans s9.gg)) .nil)) (.place hv)
  -- sort == 2
  refine ⟨_, rfl, rfl, _, rfl, ite2 (fun _ => ?_) (fun _ => ?_)⟩
  · refine ⟨by show 0 ≤ sizeLine; decide, fun t0 h0 => ?_⟩
    obtain ⟨s8, p8⟩ := ps.new_ (o := .tup []) h0
    refine ⟨by show 4 ≤ sizeLine; decide, fun t h => ?_⟩
    obtain ⟨s9, p9⟩ := p8.new_ (o := .tup [.str "zero", .str "", .ref t0, .bl false]) h
    exact q _ _ (.ref t) (.mk .zero [] [] false) ((st.trans s8).trans s9) (p9.mono (by omega)) (.of (p := t0) (vs := []) (by rw [← e0]; exact upd_same) (s9.gg _ _ upd_same) .nil) .zero
  -- sort > 4
  refine ⟨_, rfl, _, _, rfl, rfl, _, rfl, ite2 (fun _ => ?_) (fun _ => ?_)⟩
  · exact ⟨_, rfl, _, rfl, _, rfl, G1, p, n + 2, lo, lv, rfl, ps, by omega, by omega, hlo', fun G2 H3 v m s p' hm hv => q G2 H3 v m (st.trans s) (p'.mono (by omega)) hm (.val hv)⟩
  -- pieces = [value(pen, lot, levels)]
  refine ⟨_, rfl, _, rfl, _, rfl, G1, p, n + 2, lo, lv, rfl, ps, by omega, by omega, hlo', fun G2 H3 v m s p' hm hv => ?_⟩
  have st3 := st.trans s
  refine ⟨by show 1 ≤ sizeLine; decide, fun pc hpc => ?_⟩
  have hpc0 : H pc = none := st3.free hpc
  have hpcp := p'.pen.ne hpc
  have gpc : G2 pc = none := st3.gh.free hpc
  have st4 : Step (some p) G H G2 (upd H3 pc (.lst [v])) := st3.loc hpc0 gpc
  have p4 : Ps K G2 (upd H3 pc (.lst [v])) p (n + 2 + 115) := p'.stepN ((Step.refl p'.gh).loc hpc gpc)
  -- for turn in range(draw(pen, [3, 2][int(levels > 3)]))
  refine ⟨_, rfl, by show 2 ≤ sizeLine; decide, fun l2 hl2 => ?_⟩
  obtain ⟨s5, p5⟩ := p4.new_ (o := .lst [.int 3, .int 2]) hl2
  have l2pc : pc ≠ l2 := ne_of_none upd_same hl2
  have g5 : (upd G2 l2 (.lst [.int 3, .int 2])) pc = none := by rw [upd_ne l2pc]; exact gpc
  have l5 : (upd (upd H3 pc (.lst [v])) l2 (.lst [.int 3, .int 2])) pc = some (.lst [v]) := by rw [upd_ne l2pc]; exact upd_same
  have two : ∃ mm : Int, (mm = 3 ∨ mm = 2) ∧ atI [V.int 3, V.int 2] (if decide ((3 : Int) < (lv : Nat)) = true then 1 else 0) = some (.int mm) := by
    split
    · exact ⟨2, .inr rfl, atI_nat (j := 1) rfl⟩
    · exact ⟨3, .inl rfl, atI_nat (j := 0) rfl⟩
  obtain ⟨mm, hmm, emm⟩ := two
  refine ⟨_, rfl, _, _, rfl, rfl, .inr ⟨_, rfl, l2, _, _, .int mm, rfl, rfl, SqL.of upd_same, emm, ?_⟩⟩
  refine ⟨p, n + 2 + 115, mm, rfl, p5.pen, by omega, by omega, by omega, fun d6 H6 k6 P6 a6 b6 => ⟨d6, rfl, by omega, by omega, ?_⟩⟩
  obtain ⟨s6, p6⟩ := p5.draw k6 P6
  have l6 := k6 _ _ l5 hpcp
  refine for_range (lo := 0) (n := d6.toNat) (fun i σ H4 => ∃ (G4 : Hp) (vs : List V) (ts : List Mt) (o5 : Option V), σ = [some (.ref p), some lo, some (.int so), some (.int (lv : Nat)), some (.ref pc), o5] ∧ Step (some p) G H G4 H4 ∧ Ps K G4 H4 p (n + 118 + 4 * i) ∧
      H4 pc = some (.lst vs) ∧ G4 pc = none ∧ ts.length = i + 1 ∧ All2 (MAt G4) vs ts ∧ ∀ t ∈ ts, IsVal 8 t)
    ⟨_, [v], [m], none, rfl, (st4.trans s5).trans s6, p6.mono (by omega), l6, g5, rfl, .cons (hm.same s5.gg) .nil, fun t ht => by rw [List.mem_singleton.mp ht]; exact hv⟩ ?_ ?_
  · rintro i σ H4 hi ⟨G4, vs, ts, o5, rfl, s4, p4, l4, g4, ht4, hts, hvs⟩
    have hi3 : i < 2 := by omega
    have hvl : vs.length = i + 1 := by rw [hts.len]; exact ht4
    refine ⟨_, rfl, .inl ⟨rfl, _, SqL.of l4⟩, _, rfl, _, rfl, pc, _, rfl, .inl (SqL.of l4), _, _, rfl, rfl, p, n + 118 + 4 * i, ((vs.length : Nat) : Int) + 1, rfl, p4.pen, by omega, by omega, by omega, fun d7 H7 k7 P7 a7 b7 => ?_⟩
    obtain ⟨s7, p7⟩ := p4.draw k7 P7
    have l7 : H7 pc = some (.lst vs) := k7 _ _ l4 hpcp
    refine ⟨_, rfl, _, rfl, G4, p, n + 118 + 4 * i + 1, lo, rfl, p7, by omega, hlo.same s4.gg, fun G5 H5 v5 m5 s5 p5 hm5 hv5 => ?_⟩
    have l8 : H5 pc = some (.lst vs) := s5.kpc _ _ l7 hpcp
    have g8 : G5 pc = none := s5.out g4 (by rw [l7]; exact fun z => by cases z)
    refine ⟨pc, vs, d7, v5, rfl, rfl, l8, by omega, a7, by omega, ?_⟩
    refine ⟨G5, vs.take d7.toNat ++ [v5] ++ vs.drop d7.toNat, ts.take d7.toNat ++ [m5] ++ ts.drop d7.toNat, _, rfl, ((s4.trans s7).trans s5).loc hpc0 g8, (p5.put l8 g8).mono (by omega), upd_same, g8, ?_, ?_, ?_⟩
    · simp only [List.length_append, List.length_take, List.length_drop, List.length_singleton]; omega
    · have h6 := MAts.same s5.gg hts
      exact ((h6.tak _).app (.cons hm5 .nil)).app (h6.drp _)
    · intro t ht
      rw [List.mem_append, List.mem_append, List.mem_singleton] at ht
      rcases ht with (ht | ht) | ht
      · exact hvs t (List.mem_of_mem_take ht)
      · rw [ht]; exact hv5.up (by omega)
      · exact hvs t (List.mem_of_mem_drop ht)
  · rintro σ H4 ⟨G4, vs, ts, o5, rfl, s4, p4, l4, g4, ht4, hts, hvs⟩
    obtain ⟨a, a0, a1', a2', a3, n0, n1, n2, n3, rfl, g, g0, g1, g2, g3, ⟨l0, l1, l2', l3⟩, ok⟩ := id (hlo.same s4.gg)
    refine ⟨_, rfl, a, _, 3, .ref a3, rfl, rfl, SqL.of (s4.gh _ _ g), atI_nat (j := 3) rfl, ?_⟩
    refine ⟨_, rfl, p, n + 118 + 4 * d6.toNat, 2, rfl, p4.pen, by omega, by decide, by decide, fun d7 H7 k7 P7 a7 b7 => ?_⟩
    obtain ⟨s7, p7⟩ := p4.draw k7 P7
    obtain ⟨x, hx, mx⟩ := at_str (ns := n3) a7 (by rw [l3]; exact b7)
    refine ⟨a3, _, d7, _, rfl, rfl, SqL.of (s7.gh _ _ g3), hx, ?_⟩
    have l7 : H7 pc = some (.lst vs) := k7 _ _ l4 hpcp
    refine ⟨_, rfl, pc, vs, rfl, .inl ⟨SqL.of l7, fun t0 h0 => ?_⟩⟩
    obtain ⟨s8, p8⟩ := p7.new_ (o := .tup vs) h0
    refine ⟨by show 4 ≤ sizeLine; decide, fun t h => ?_⟩
    obtain ⟨s9, p9⟩ := p8.new_ (o := .tup [.str "rule", .str (S x.cps.toList), .ref t0, .bl false]) h
    exact q _ _ (.ref t) (.mk .rule x.cps.toList ts false) (((s4.trans s7).trans s8).trans s9) (p9.mono (by omega)) (.of (p := t0) (vs := vs) upd_same (s9.gg _ _ upd_same) (MAts.same (s8.gg.trans s9.gg) hts))
      (.rule (by rw [S_tl]; exact ok x (.inr (.inr (.inr mx)))) (by omega) (by omega) hvs)
end Pf
namespace Bs
open PySem PySem.Spec PyProof.Rows L2 SX
variable {P : Program} {w : World} {K : PySem.W.Frag} {mg : Str → Option Value} {base : Heap}
/-! ### a term's shape, through and through, so many levels deep -/
structure Sh2 (so : So) (w : List Nat) (ts : List Mt) (b : Bool) : Prop where
  sh : Shp so w ts
  fl : so ≠ .row → b = false
  leaf : so = .row ∨ so = .zero → ts = []
  one : so = .column ∨ so = .place → ∃ (w' : List Nat) (b' : Bool), ts = [.mk .row w' [] b'] ∧ w'.length ≤ 8
  nil : so = .zero ∨ so = .place → w = []
  more : so = .func ∨ so = .rule → 1 ≤ ts.length
inductive Wt : Nat → Mt → Prop where
  | mk {n : Nat} {so : So} {w : List Nat} {ts : List Mt} {b : Bool} (h : Sh2 so w ts b) (hs : ∀ t ∈ ts, Wt n t) : Wt (n + 1) (.mk so w ts b)
theorem NameOk.len8 {w : List Nat} (h : NameOk (S w)) : w.length ≤ 8 := h.1.len
theorem row_len {t : Mt} (h : IsRow t) : t.txt.length ≤ 9 := by
  cases h with
  | mk h =>
    rw [Mt.txt_mk]
    unfold tx
    have := h.len8
    simp only
    split
    · rw [List.length_append, List.length_singleton]; omega
    · omega
theorem row_wt {n : Nat} {t : Mt} (h : IsRow t) : Wt (n + 1) t := by
  cases h with
  | mk h => exact .mk ⟨⟨h.len8, by simp, (fun _ h => by cases h), (fun h => by rcases h with h | h <;> cases h)⟩, (fun h => absurd rfl h), fun _ => rfl, (fun h => by rcases h with h | h <;> cases h), (fun h => by rcases h with h | h <;> cases h), (fun h => by rcases h with h | h <;> cases h)⟩ (fun _ h => by cases h)
theorem row_is {t : Mt} (h : IsRow t) : ∃ (w' : List Nat) (b' : Bool), [t] = [Mt.mk .row w' [] b'] ∧ w'.length ≤ 8 := by
  cases h with
  | @mk w b h => exact ⟨w, b, rfl, h.len8⟩
theorem val_len : ∀ {n : Nat} {t : Mt}, IsVal n t → t.txt.length + 8 ≤ 30 * 3 ^ n := fun {n t} h => by
  induction h with
  | @col n w r h hr =>
    have h1 := h.len8
    have h2 := row_len hr
    have h3 : 1 ≤ 3 ^ n := Nat.one_le_pow n 3 (by decide)
    rw [Mt.txt_mk]
    show (([r].map Mt.txt).headD [] ++ [46] ++ w).length + 8 ≤ _
    simp only [List.map_cons, List.map_nil, List.headD_cons, List.length_append, List.length_singleton]
    omega
  | @fn n w ts h h1 h3 hs ih =>
    have hw := h.len8
    rw [Mt.txt_mk]
    show (w ++ [40] ++ TL.joinL [44, 32] (ts.map Mt.txt) ++ [41]).length + 8 ≤ _
    have sj := joinL_len [44, 32] (ts.map Mt.txt)
    have ss : ((ts.map Mt.txt).map List.length).sum ≤ (ts.map Mt.txt).length * (30 * 3 ^ n - 8) := sum_le fun x hx => by
      obtain ⟨t, ht, rfl⟩ := List.mem_map.mp hx
      have := ih t ht
      omega
    have h4 : (ts.map Mt.txt).length * (30 * 3 ^ n - 8) ≤ 3 * (30 * 3 ^ n - 8) := Nat.mul_le_mul_right _ (by rw [List.length_map]; exact h3)
    have h5 : 1 ≤ 3 ^ n := Nat.one_le_pow n 3 (by decide)
    have l2 : ([44, 32] : List Nat).length = 2 := rfl
    rw [l2, List.length_map] at sj
    simp only [List.length_append, List.length_singleton]
    rw [Nat.pow_succ]
    omega
theorem val_wt : ∀ {n : Nat} {t : Mt}, IsVal n t → n ≤ 8 → Wt (n + 2) t := fun {n t} h => by
  induction h with
  | @col n w r h hr =>
    intro _
    refine .mk ⟨⟨h.len8, by simp, (fun t ht => ?_), (fun _ h => by cases h)⟩, fun _ => rfl, (fun h => by rcases h with h | h <;> cases h), fun _ => row_is hr, (fun h => by rcases h with h | h <;> cases h), (fun h => by rcases h with h | h <;> cases h)⟩ (fun t ht => ?_)
    · rw [List.mem_singleton.mp ht]
      have := row_len hr
      omega
    · rw [List.mem_singleton.mp ht]
      exact row_wt hr
  | @fn n w ts h h1 h3 hs ih =>
    intro hn
    refine .mk ⟨⟨h.len8, h3, (fun t ht => ?_), (fun h => by rcases h with h | h <;> cases h)⟩, fun _ => rfl, (fun h => by rcases h with h | h <;> cases h), (fun h => by rcases h with h | h <;> cases h), (fun h => by rcases h with h | h <;> cases h), fun _ => h1⟩ (fun t ht => ih t ht (by omega))
    have h4 := val_len (hs t ht)
    have h5 : 3 ^ n ≤ 3 ^ 8 := Nat.pow_le_pow_right (by decide) (by omega)
    have h6 : (3 : Nat) ^ 8 = 6561 := by decide
    omega
theorem Wt.up : ∀ {n m : Nat} {t : Mt}, Wt n t → n ≤ m → Wt m t := fun {n m t} h => by
  induction h generalizing m with
  | @mk n so w ts b h hs ih =>
    intro hm
    cases m with
    | zero => exact absurd hm (by omega)
    | succ m => exact .mk h fun t ht => ih t ht (by omega)
theorem term_wt {t : Mt} (h : IsTerm t) : Wt 12 t := by
  cases h with
  | row h => exact (row_wt (n := 0) h).up (by decide)
  | @place r h =>
    refine (Wt.mk (n := 1) ⟨⟨by simp, by simp, (fun t ht => ?_), (fun _ h => by cases h)⟩, fun _ => rfl, (fun h => by rcases h with h | h <;> cases h), fun _ => row_is h, fun _ => rfl, (fun h => by rcases h with h | h <;> cases h)⟩ (fun t ht => ?_)).up (by decide)
    · rw [List.mem_singleton.mp ht]
      have := row_len h
      omega
    · rw [List.mem_singleton.mp ht]
      exact row_wt h
  | zero => exact (Wt.mk (n := 0) ⟨⟨by simp, by simp, (fun _ h => by cases h), (fun h => by rcases h with h | h <;> cases h)⟩, fun _ => rfl, fun _ => rfl, (fun h => by rcases h with h | h <;> cases h), fun _ => rfl, (fun h => by rcases h with h | h <;> cases h)⟩ (fun _ h => by cases h)).up (by decide)
  | val h => exact (val_wt h (Nat.le_refl 8)).up (by decide)
  | @rule w ts h h1 h3 hs =>
    refine (Wt.mk (n := 10) ⟨⟨h.len8, h3, (fun t ht => ?_), (fun h => by rcases h with h | h <;> cases h)⟩, fun _ => rfl, (fun h => by rcases h with h | h <;> cases h), (fun h => by rcases h with h | h <;> cases h), (fun h => by rcases h with h | h <;> cases h), fun _ => h1⟩ (fun t ht => val_wt (hs t ht) (Nat.le_refl 8))).up (by decide)
    have h4 := val_len (hs t ht)
    have h6 : (3 : Nat) ^ 8 = 6561 := by decide
    omega
def spTxt (n : Nat) : Sp := fun vs H Q _ => ∃ (G : Hp) (m : Mt) (v : V), vs = [v] ∧ Same G H ∧ MAt G v m ∧ Wt n m ∧ ∀ H' : Hp, Step none G H G H' → Q (.str (S m.txt)) H'
/-- a def that may be asked for nothing -/
theorem cal_none {nm qual x : Str} {par : Arguments} {bd : List Stmt} {sco : Scope} {ps : List Str} {sp : Sp} {a : Addr} {fd : FuncData}
    (F : FunD K nm qual par bd sco [] [] a fd) (hm : mg x = some (.ref a)) (b : Binds K fd ps []) (no : ∀ vs H Q E, ¬ sp vs H Q E) : C8.Cal P w K mg base 0 x sp [] :=
  ⟨a, fd, ps, [], ⟨fun vs H Q E h => absurd h (no vs H Q E), fun A outer s H args us vs Q E _ _ _ _ h => absurd h (no vs H Q E)⟩, hm, F.kp, b, .nil⟩
end Bs
namespace Pf
open PySem PySem.Spec PyProof.Rows L2 Bs SX
variable {P : Program} {w : World} {K : PySem.W.Frag} {mg : Str → Option Value} {base : Heap}
local macro_rules | `(tactic| walk_at "no") => `(tactic| refine ite2 (fun c => absurd (V.str.inj (of_decide_eq_true c)) (by decide +kernel)) (fun _ => ?_))
local macro_rules | `(tactic| walk_at "yes") => `(tactic| refine ite2 (fun _ => ?_) (fun c => absurd (decide_eq_true rfl) c))
abbrev N_Ltext : List Str := ["_law_model", "_law_texts", "_law_kind", "_law_name", "_law_parts", "_law_marked", "_law_part"]
theorem sc_Ltext : FnScope N_Ltext ["_law_model"] (defScope s_Ltext) := ⟨rfl, rfl, rfl, by decide +kernel, rfl, by decide +kernel, by decide +kernel⟩
theorem c_Ltext (T : Tx K mg) : ∀ n : Nat, C8.Cal P w K mg base n "_law_text" (spTxt n) []
  | 0 => by
    obtain ⟨fd, F⟩ := f_Ltext T
    exact cal_none F (g_law_text T) (F.bindsN (ps := ["_law_model"]) fun _ _ _ _ _ _ us hl => match us, hl with | [_], _ => rfl) fun vs H Q E ⟨G, m, v, _, _, _, h, _⟩ => nomatch h
  | n + 1 => by
    obtain ⟨fd, F⟩ := f_Ltext T
    have c_Ltext := c_Ltext T n
    refine mkCal F (g_law_text T) (F.bindsN fun _ _ _ _ _ _ us hl => match us, hl with | [_], _ => rfl) .nil sc_Ltext (fun vs H Q E h => ?_) (fun cdv A outer s H vs Q E hr h => ?_)
    · obtain ⟨G, m, v, rfl, _⟩ := h
      rfl
    obtain ⟨G, m, v, rfl, hG, hm, hw, q⟩ := h
    have sl : sizeLine = 16777216 := rfl
    cases hw with
    | @mk n so w ts b h2 hs =>
    obtain ⟨a, p, pv', rfl, ha, hp, hts⟩ := hm.parts
    have sh := h2.sh
    refine ⟨_, (pss_cons (ps_asg (pv 0) (pg_tup rfl (pgs_cons (pg_name (i := 2) sc_Ltext.nd rfl (Or.inl rfl)) (pgs_cons (pg_name (i := 3) sc_Ltext.nd rfl (Or.inl rfl)) (pgs_cons (pg_name (i := 4) sc_Ltext.nd rfl (Or.inl rfl)) (pgs_cons (pg_name (i := 5) sc_Ltext.nd rfl (Or.inl rfl)) pgs_nil))))))
    (pss_cons (ps_setLc (i := 1) (own := [("_law_part", 6)]) rfl sc_Ltext.nd rfl rfl (sw_true rfl rfl rfl (by decide +kernel)) (pi_tupK (K := K) rfl (pv 4)) (blkOk_by (N := N_Ltext) (sc := defScope s_Ltext) (by decide +kernel)) (fun _ _ _ _ _ => (pg_name (i := 6) sc_Ltext.nd rfl (Or.inl rfl))) (fun _ _ _ _ _ => pts_nil) (fun _ _ _ _ _ => (C8.pe_c c_Ltext hr (by first | decide | omega) rfl (pa_cons (pv 6) pa_nil))))
    (pss_cons (ps_if (pt_cmpR op_eq (pv 2) pe_str (nomark _)) (pss_one (ps_ret (pe_op op_add_str (pv 3) (pe_op op_rep_str pe_str (pe_callTy call_int1 (by rfl) (z_int T) boot_int (pa_cons (pv 5) pa_nil)))))) pss_nil)
    (pss_cons (ps_if (pt_cmpR op_eq (pv 2) pe_str (nomark _)) (pss_one (ps_ret (pe_op op_add_str (pe_op op_add_str (pe_ix (ix_listK (K := K) rfl) (pv 1) pe_int (fun _ _ => rfl)) pe_str) (pv 3)))) pss_nil)
    (pss_cons (ps_if (pt_cmpR op_eq (pv 2) pe_str (nomark _)) (pss_one (ps_ret (pe_op op_add_str pe_str (pe_ix (ix_listK (K := K) rfl) (pv 1) pe_int (fun _ _ => rfl))))) pss_nil)
    (pss_cons (ps_if (pt_cmpR op_eq (pv 2) pe_str (nomark _)) (pss_one (ps_ret pe_str)) pss_nil)
    (pss_cons (ps_if (pt_cmpR op_eq (pv 2) pe_str (nomark _)) (pss_one (ps_ret (pe_op op_add_str (pe_op op_add_str (pe_op op_add_str (pv 3) pe_str) (pe_join pe_str (pv 1))) pe_str))) pss_nil)
    (pss_one (ps_ret (pe_op op_add_str (pe_op op_add_str (pe_op op_add_str (pv 3) pe_str) (pe_join pe_str (pv 1))) pe_str)))))))))), ?_⟩
    refine ⟨_, rfl, a, _, rfl, SqT.of (hG _ _ ha), rfl, _, _, rfl, _, _, rfl, _, _, rfl, _, _, rfl, rfl, ?_⟩
    refine ⟨_, rfl, p, rfl, ⟨_, SqT.of (hG _ _ hp)⟩, fun D hD => ?_⟩
    have gD : G D = none := hG.free hD
    refine lc_tup (K := K) (a := p) (xs := pv') (fun i H' => Step none G H G H' ∧ H' D = some (.lst ((((ts.take i).map Mt.txt).map S).map V.str))) ⟨(Step.refl hG).loc hD gD, upd_same⟩ ?_ ?_ ?_
    · rintro i H' _ ⟨st, _⟩
      exact SqT.of (st.gh _ _ hp)
    · rintro i x H' hx ⟨st, hL⟩
      obtain ⟨t, ht, mt⟩ := get_pair hts.len hx
      refine ⟨rfl, ?_⟩
      unfold tYes
      refine iteT ⟨_, rfl, G, t, x, rfl, st.gh, hts.get hx ht, hs t mt, fun H2 s2 => ⟨_, s2.same _ _ hL, ?_, (st.trans s2).loc hD gD, ?_⟩⟩
      · have := sh.t3
        simp only [List.length_map, List.length_take]
        omega
      · rw [upd_same, take_one ht, List.map_append, List.map_append, List.map_append]
        rfl
    rintro H' ⟨st, hL⟩
    rw [hts.len, List.take_length] at hL
    have q2 := q H' st
    rw [Mt.txt_mk] at q2
    have hw := sh.w8
    have sj := joinL_len [44, 32] (ts.map Mt.txt)
    have ss := sum_le (xs := ts.map Mt.txt) (n := 600000) fun x hx => by
      obtain ⟨t, ht, rfl⟩ := List.mem_map.mp hx
      exact sh.tx t ht
    have s3 : (ts.map Mt.txt).length * 600000 ≤ 3 * 600000 := Nat.mul_le_mul_right _ (by rw [List.length_map]; exact sh.t3)
    have t3 := sh.t3
    have l2 : ([44, 32] : List Nat).length = 2 := rfl
    rw [l2, List.length_map] at sj
    have head : ts ≠ [] → ∃ x0, atI (((ts.map Mt.txt).map S).map V.str) 0 = some (.str (S x0)) ∧ (ts.map Mt.txt).headD [] = x0 ∧ x0.length ≤ 600000 := fun h => by
      cases ts with
      | nil => exact absurd rfl h
      | cons x r => exact ⟨x.txt, atI_nat (j := 0) (xs := ((((x :: r).map Mt.txt).map S).map V.str)) rfl, rfl, sh.tx x List.mem_cons_self⟩
    cases so with
    | row =>
      refine ⟨_, rfl, rfl, _, rfl, ?_⟩
      walk_at "yes"
      refine ⟨_, rfl, _, rfl, .inr ⟨b, rfl, "'", (if b = true then 1 else 0), rfl, rfl, by split <;> decide, by split <;> decide, by decide +kernel, ?_⟩⟩
      cases b with
      | true =>
        have e : (⟨(List.replicate (if true = true then (1 : Int) else 0).toNat ("'" : Str).cps.toList).flatten.toArray⟩ : Str) = S [39] := by decide +kernel
        rw [e]
        refine ⟨S w, S [39], rfl, rfl, by rw [S_len, S_len]; simp; omega, ?_⟩
        rw [S_cat]
        exact q2
      | false =>
        have e : (⟨(List.replicate (if false = true then (1 : Int) else 0).toNat ("'" : Str).cps.toList).flatten.toArray⟩ : Str) = S [] := by decide +kernel
        rw [e]
        refine ⟨S w, S [], rfl, rfl, by rw [S_len, S_len]; simp; omega, ?_⟩
        rw [S_cat, List.append_nil]
        exact q2
    | column =>
      obtain ⟨x0, h0, e0, z0⟩ := head (sh.ne (.inl rfl))
      refine ⟨_, rfl, rfl, _, rfl, ?_⟩
      walk_at "no"
      refine ⟨_, rfl, rfl, _, rfl, ?_⟩
      walk_at "yes"
      refine ⟨_, rfl, D, _, 0, _, rfl, rfl, SqL.of hL, h0, S x0, ".", rfl, rfl, by rw [dot_, S_len, S_len]; simp; omega, _, rfl, _, _, rfl, rfl, by rw [dot_, S_cat, S_len, S_len]; simp; omega, ?_⟩
      rw [dot_, S_cat, S_cat]
      have e : tx .column w (ts.map Mt.txt) b = x0 ++ [46] ++ w := by rw [← e0]; rfl
      rw [← e]
      exact q2
    | place =>
      obtain ⟨x0, h0, e0, z0⟩ := head (sh.ne (.inr rfl))
      refine ⟨_, rfl, rfl, _, rfl, ?_⟩
      walk_at "no"
      refine ⟨_, rfl, rfl, _, rfl, ?_⟩
      walk_at "no"
      refine ⟨_, rfl, rfl, _, rfl, ?_⟩
      walk_at "yes"
      refine ⟨_, rfl, D, _, 0, _, rfl, rfl, SqL.of hL, h0, "@", S x0, rfl, rfl, by rw [at__, S_len, S_len]; simp; omega, ?_⟩
      rw [at__, S_cat]
      have e : tx .place w (ts.map Mt.txt) b = [64] ++ x0 := by rw [← e0]; rfl
      rw [← e]
      exact q2
    | zero =>
      refine ⟨_, rfl, rfl, _, rfl, ?_⟩
      walk_at "no"
      refine ⟨_, rfl, rfl, _, rfl, ?_⟩
      walk_at "no"
      refine ⟨_, rfl, rfl, _, rfl, ?_⟩
      walk_at "no"
      refine ⟨_, rfl, rfl, _, rfl, ?_⟩
      walk_at "yes"
      show Q (V.str "0") H'
      rw [zero_]
      exact q2
    | func =>
      refine ⟨_, rfl, rfl, _, rfl, ?_⟩
      walk_at "no"
      refine ⟨_, rfl, rfl, _, rfl, ?_⟩
      walk_at "no"
      refine ⟨_, rfl, rfl, _, rfl, ?_⟩
      walk_at "no"
      refine ⟨_, rfl, rfl, _, rfl, ?_⟩
      walk_at "no"
      refine ⟨_, rfl, rfl, _, rfl, ?_⟩
      walk_at "yes"
      refine ⟨_, rfl, S w, "(", rfl, rfl, by rw [lp_, S_len, S_len]; simp; omega, ⟨_, rfl⟩, _, rfl, ", ", D, (ts.map Mt.txt).map S, rfl, rfl, .inl (SqL.of hL), by rw [lenS, List.length_map, List.length_map, cs_, S_len, l2]; omega, ?_⟩
      rw [cs_, join_S]
      refine ⟨_, _, rfl, rfl, by rw [lp_, S_cat, S_len, S_len]; simp; omega, ?_⟩
      refine ⟨_, ")", rfl, rfl, by rw [lp_, rp_, S_cat, S_cat, S_len, S_len]; simp; omega, ?_⟩
      rw [lp_, rp_, S_cat, S_cat, S_cat]
      exact q2
    | rule =>
      refine ⟨_, rfl, rfl, _, rfl, ?_⟩
      walk_at "no"
      refine ⟨_, rfl, rfl, _, rfl, ?_⟩
      walk_at "no"
      refine ⟨_, rfl, rfl, _, rfl, ?_⟩
      walk_at "no"
      refine ⟨_, rfl, rfl, _, rfl, ?_⟩
      walk_at "no"
      refine ⟨_, rfl, rfl, _, rfl, ?_⟩
      walk_at "no"
      refine ⟨_, rfl, S w, "[", rfl, rfl, by rw [lb_, S_len, S_len]; simp; omega, ⟨_, rfl⟩, _, rfl, ", ", D, (ts.map Mt.txt).map S, rfl, rfl, .inl (SqL.of hL), by rw [lenS, List.length_map, List.length_map, cs_, S_len, l2]; omega, ?_⟩
      rw [cs_, join_S]
      refine ⟨_, _, rfl, rfl, by rw [lb_, S_cat, S_len, S_len]; simp; omega, ?_⟩
      refine ⟨_, "]", rfl, rfl, by rw [lb_, rb_, S_cat, S_cat, S_len, S_len]; simp; omega, ?_⟩
      rw [lb_, rb_, S_cat, S_cat, S_cat]
      exact q2
end Pf
namespace Bs
open PySem PySem.Spec PyProof.Rows L2 SX
variable {P : Program} {w : World} {K : PySem.W.Frag} {mg : Str → Option Value} {base : Heap}
def spApp (C : Addr) : Sp := fun vs H Q _ => ∃ (G : Hp) (so : So) (w : List Nat) (l : Addr) (xs : List V) (ts : List Mt), vs = [.str so.s, .str (S w), .ref l] ∧ (so = .func ∨ so = .rule) ∧ Same G H ∧ H l = some (.lst xs) ∧ All2 (TAt C G) xs ts ∧ Shp so w ts ∧ 1 ≤ ts.length ∧
  ∀ (G' H' : Hp) (x : Addr), Step none G H G' H' → TAt C G' (.ref x) (.mk so w ts false) → H x = none → Q (.ref x) H'
theorem fnr {so : So} {C : Addr} {G H : Hp} {w : List Nat} {xs : List V} {ts : List Mt} {Q : VK} {E : XK} (hG : Same G H) (ht : All2 (TAt C G) xs ts) (sh : Shp so w ts) (q : ∀ (G' H' : Hp) (x : Addr), Step none G H G' H' → TAt C G' (.ref x) (.mk so w ts false) → H x = none → Q (.ref x) H') : spFnR so C (V.str (S w) :: xs) H Q E := by
  refine ⟨[.str (S w)], xs, rfl, rfl, ?_, fun p hp => ⟨G, p, w, xs, ts, rfl, Same.off hG (hG.free hp), upd_same, ht.len, fun i v t h1 h2 => ht.get h1 h2, sh, fun G' H' x st hx hn => ?_⟩⟩
  · have := ht.len
    have := sh.t3
    have : sizeLine = 16777216 := rfl
    omega
  · have s0 : Step none G H G (upd H p (.tup xs)) := (Step.refl hG).loc hp (hG.free hp)
    exact q G' H' x (s0.trans st) hx (s0.free hn)
def spBuilt (C : Addr) (n : Nat) : Sp := fun vs H Q _ => ∃ (G : Hp) (m : Mt) (v : V), vs = [v] ∧ Same G H ∧ MAt G v m ∧ Wt n m ∧ ∀ (G' H' : Hp) (x : Addr), Step none G H G' H' → TAt C G' (.ref x) m → Q (.ref x) H'
end Bs
namespace Pf
open PySem PySem.Spec PyProof.Rows L2 Bs SX
variable {P : Program} {w : World} {K : PySem.W.Frag} {mg : Str → Option Value} {base : Heap}
local macro_rules | `(tactic| walk_at "no") => `(tactic| refine ite2 (fun c => absurd (V.str.inj (of_decide_eq_true c)) (by decide +kernel)) (fun _ => ?_))
local macro_rules | `(tactic| walk_at "yes") => `(tactic| refine ite2 (fun _ => ?_) (fun c => absurd (decide_eq_true rfl) c))
local macro_rules | `(tactic| walk_at "noi") => `(tactic| refine ite2 (fun c => absurd (V.int.inj (of_decide_eq_true c)) (by simp)) (fun _ => ?_))
abbrev N_Lapplied : List Str := ["_law_kind", "_law_name", "_law_built_here"]
theorem sc_Lapplied : FnScope N_Lapplied ["_law_kind", "_law_name", "_law_built_here"] (defScope s_Lapplied) := ⟨rfl, rfl, rfl, by decide +kernel, rfl, by decide +kernel, by decide +kernel⟩
theorem c_Lapplied (T : Tx K mg) : C8.Cal P w K mg base 7 "_law_applied" (spApp (CT K)) [] := by
  obtain ⟨fd, F⟩ := f_Lapplied T
  have r_rule_term := r_rule_term (P := P) (w := w) (base := base) T
  have r_function_term := r_function_term (P := P) (w := w) (base := base) T
  refine mkCal F (g_law_applied T) (F.bindsN fun _ _ _ _ _ _ us hl => match us, hl with | [_, _, _], _ => rfl) .nil sc_Lapplied (fun vs H Q E h => ?_) (fun cdv A outer s H vs Q E hr h => ?_)
  · obtain ⟨G, so, w, l, xs, ts, rfl, _⟩ := h
    rfl
  obtain ⟨G, so, w, l, xs, ts, rfl, hso, hG, hl, ht, sh, h1, q⟩ := h
  have t3 := sh.t3
  refine ⟨_, (pss_cons (ps_if (pt_cmpR op_eq (pv 0) pe_str (nomark _)) (pss_cons (ps_if (pt_cmpR op_eq (pe_callB (call_len_seqK (K := K) rfl) (by rfl) (z_len T) boot_len (pa_cons (pv 2) pa_nil)) pe_int (nomark _)) (pss_one (ps_ret (pe_r r_rule_term hr (by first | decide | omega) rfl (pa_cons (pv 1) (pa_cons (pe_ix (ix_listK (K := K) rfl) (pv 2) pe_int (fun _ _ => rfl)) pa_nil))))) pss_nil)
    (pss_cons (ps_if (pt_cmpR op_eq (pe_callB (call_len_seqK (K := K) rfl) (by rfl) (z_len T) boot_len (pa_cons (pv 2) pa_nil)) pe_int (nomark _)) (pss_one (ps_ret (pe_r r_rule_term hr (by first | decide | omega) rfl (pa_cons (pv 1) (pa_cons (pe_ix (ix_listK (K := K) rfl) (pv 2) pe_int (fun _ _ => rfl)) (pa_cons (pe_ix (ix_listK (K := K) rfl) (pv 2) pe_int (fun _ _ => rfl)) pa_nil)))))) pss_nil)
    (pss_one (ps_ret (pe_r r_rule_term hr (by first | decide | omega) rfl (pa_cons (pv 1) (pa_cons (pe_ix (ix_listK (K := K) rfl) (pv 2) pe_int (fun _ _ => rfl)) (pa_cons (pe_ix (ix_listK (K := K) rfl) (pv 2) pe_int (fun _ _ => rfl)) (pa_cons (pe_ix (ix_listK (K := K) rfl) (pv 2) pe_int (fun _ _ => rfl)) pa_nil))))))))) pss_nil)
    (pss_cons (ps_if (pt_cmpR op_eq (pe_callB (call_len_seqK (K := K) rfl) (by rfl) (z_len T) boot_len (pa_cons (pv 2) pa_nil)) pe_int (nomark _)) (pss_one (ps_ret (pe_r r_function_term hr (by first | decide | omega) rfl (pa_cons (pv 1) (pa_cons (pe_ix (ix_listK (K := K) rfl) (pv 2) pe_int (fun _ _ => rfl)) pa_nil))))) pss_nil)
    (pss_cons (ps_if (pt_cmpR op_eq (pe_callB (call_len_seqK (K := K) rfl) (by rfl) (z_len T) boot_len (pa_cons (pv 2) pa_nil)) pe_int (nomark _)) (pss_one (ps_ret (pe_r r_function_term hr (by first | decide | omega) rfl (pa_cons (pv 1) (pa_cons (pe_ix (ix_listK (K := K) rfl) (pv 2) pe_int (fun _ _ => rfl)) (pa_cons (pe_ix (ix_listK (K := K) rfl) (pv 2) pe_int (fun _ _ => rfl)) pa_nil)))))) pss_nil)
    (pss_one (ps_ret (pe_r r_function_term hr (by first | decide | omega) rfl (pa_cons (pv 1) (pa_cons (pe_ix (ix_listK (K := K) rfl) (pv 2) pe_int (fun _ _ => rfl)) (pa_cons (pe_ix (ix_listK (K := K) rfl) (pv 2) pe_int (fun _ _ => rfl)) (pa_cons (pe_ix (ix_listK (K := K) rfl) (pv 2) pe_int (fun _ _ => rfl)) pa_nil)))))))))), ?_⟩
  rcases hso with rfl | rfl
  · refine ⟨_, rfl, rfl, _, rfl, ?_⟩
    walk_at "no"
    match xs, ts, ht, h1, t3 with
    | [], [], _, h, _ => exact absurd h (by simp)
    | [x0], [t0], ht, _, _ =>
      refine ⟨_, rfl, l, _, rfl, .inl (SqL.of hl), rfl, _, rfl, ?_⟩
      walk_at "yes"
      exact ⟨_, rfl, _, rfl, l, _, 0, x0, rfl, rfl, SqL.of hl, atI_nat (j := 0) rfl, fnr hG ht sh q⟩
    | [x0, x1], [t0, t1], ht, _, _ =>
      refine ⟨_, rfl, l, _, rfl, .inl (SqL.of hl), rfl, _, rfl, ?_⟩
      walk_at "noi"
      refine ⟨_, rfl, l, _, rfl, .inl (SqL.of hl), rfl, _, rfl, ?_⟩
      walk_at "yes"
      exact ⟨_, rfl, _, rfl, l, _, 0, x0, rfl, rfl, SqL.of hl, atI_nat (j := 0) rfl, _, rfl, l, _, 1, x1, rfl, rfl, SqL.of hl, atI_nat (j := 1) rfl, fnr hG ht sh q⟩
    | [x0, x1, x2], [t0, t1, t2], ht, _, _ =>
      refine ⟨_, rfl, l, _, rfl, .inl (SqL.of hl), rfl, _, rfl, ?_⟩
      walk_at "noi"
      refine ⟨_, rfl, l, _, rfl, .inl (SqL.of hl), rfl, _, rfl, ?_⟩
      walk_at "noi"
      exact ⟨_, rfl, _, rfl, l, _, 0, x0, rfl, rfl, SqL.of hl, atI_nat (j := 0) rfl, _, rfl, l, _, 1, x1, rfl, rfl, SqL.of hl, atI_nat (j := 1) rfl, _, rfl, l, _, 2, x2, rfl, rfl, SqL.of hl, atI_nat (j := 2) rfl, fnr hG ht sh q⟩
    | _ :: _ :: _ :: _ :: _, _ :: _ :: _ :: _ :: _, _, _, h => exact absurd h (by simp)
  · refine ⟨_, rfl, rfl, _, rfl, ?_⟩
    walk_at "yes"
    match xs, ts, ht, h1, t3 with
    | [], [], _, h, _ => exact absurd h (by simp)
    | [x0], [t0], ht, _, _ =>
      refine ⟨_, rfl, l, _, rfl, .inl (SqL.of hl), rfl, _, rfl, ?_⟩
      walk_at "yes"
      exact ⟨_, rfl, _, rfl, l, _, 0, x0, rfl, rfl, SqL.of hl, atI_nat (j := 0) rfl, fnr hG ht sh q⟩
    | [x0, x1], [t0, t1], ht, _, _ =>
      refine ⟨_, rfl, l, _, rfl, .inl (SqL.of hl), rfl, _, rfl, ?_⟩
      walk_at "noi"
      refine ⟨_, rfl, l, _, rfl, .inl (SqL.of hl), rfl, _, rfl, ?_⟩
      walk_at "yes"
      exact ⟨_, rfl, _, rfl, l, _, 0, x0, rfl, rfl, SqL.of hl, atI_nat (j := 0) rfl, _, rfl, l, _, 1, x1, rfl, rfl, SqL.of hl, atI_nat (j := 1) rfl, fnr hG ht sh q⟩
    | [x0, x1, x2], [t0, t1, t2], ht, _, _ =>
      refine ⟨_, rfl, l, _, rfl, .inl (SqL.of hl), rfl, _, rfl, ?_⟩
      walk_at "noi"
      refine ⟨_, rfl, l, _, rfl, .inl (SqL.of hl), rfl, _, rfl, ?_⟩
      walk_at "noi"
      exact ⟨_, rfl, _, rfl, l, _, 0, x0, rfl, rfl, SqL.of hl, atI_nat (j := 0) rfl, _, rfl, l, _, 1, x1, rfl, rfl, SqL.of hl, atI_nat (j := 1) rfl, _, rfl, l, _, 2, x2, rfl, rfl, SqL.of hl, atI_nat (j := 2) rfl, fnr hG ht sh q⟩
    | _ :: _ :: _ :: _ :: _, _ :: _ :: _ :: _ :: _, _, _, h => exact absurd h (by simp)
abbrev N_Lbuilt : List Str := ["_law_model", "_law_kind", "_law_name", "_law_parts", "_law_marked", "_law_part"]
theorem sc_Lbuilt : FnScope N_Lbuilt ["_law_model"] (defScope s_Lbuilt) := ⟨rfl, rfl, rfl, by decide +kernel, rfl, by decide +kernel, by decide +kernel⟩
theorem c_Lbuilt (T : Tx K mg) : ∀ n : Nat, C8.Cal P w K mg base (n + 8) "_law_built" (spBuilt (CT K) n) []
  | 0 => by
    obtain ⟨fd, F⟩ := f_Lbuilt T
    exact Cal.mono (cal_none F (g_law_built T) (F.bindsN (ps := ["_law_model"]) fun _ _ _ _ _ _ us hl => match us, hl with | [_], _ => rfl) fun vs H Q E ⟨G, m, v, _, _, _, h, _⟩ => nomatch h) (Nat.zero_le _)
  | n + 1 => by
    obtain ⟨fd, F⟩ := f_Lbuilt T
    have c_Lbuilt := c_Lbuilt T n
    have c_Lapplied := c_Lapplied (P := P) (w := w) (base := base) T
    have c_zero_term := c_zero_term (P := P) (w := w) (base := base) T
    have c_row_term := c_row_term (P := P) (w := w) (base := base) T
    have c_place_term := c_place_term (P := P) (w := w) (base := base) T
    have c_column_term := c_column_term (P := P) (w := w) (base := base) T
    show C8.Cal P w K mg base (n + 8 + 1) _ _ _
    refine mkCal F (g_law_built T) (F.bindsN fun _ _ _ _ _ _ us hl => match us, hl with | [_], _ => rfl) .nil sc_Lbuilt (fun vs H Q E h => ?_) (fun cdv A outer s H vs Q E hr h => ?_)
    · obtain ⟨G, m, v, rfl, _⟩ := h
      rfl
    obtain ⟨G, m, v, rfl, hG, hm, hw, q⟩ := h
    have sl : sizeLine = 16777216 := rfl
    cases hw with
    | @mk n so w ts b h2 hs =>
    obtain ⟨a, p, pv', rfl, ha, hp, hts⟩ := hm.parts
    have sh := h2.sh
    refine ⟨_, (pss_cons (ps_asg (pv 0) (pg_tup rfl (pgs_cons (pg_name (i := 1) sc_Lbuilt.nd rfl (Or.inl rfl)) (pgs_cons (pg_name (i := 2) sc_Lbuilt.nd rfl (Or.inl rfl)) (pgs_cons (pg_name (i := 3) sc_Lbuilt.nd rfl (Or.inl rfl)) (pgs_cons (pg_name (i := 4) sc_Lbuilt.nd rfl (Or.inl rfl)) pgs_nil))))))
    (pss_cons (ps_if (pt_cmpR op_eq (pv 1) pe_str (nomark _)) (pss_one (ps_ret (pe_c0 c_zero_term hr (by first | decide | omega) rfl))) pss_nil)
    (pss_cons (ps_if (pt_cmpR op_eq (pv 1) pe_str (nomark _)) (pss_one (ps_ret (C8.pe_c c_row_term hr (by first | decide | omega) rfl (pa_cons (pv 2) (pa_cons (pv 4) pa_nil))))) pss_nil)
    (pss_cons (ps_if (pt_cmpR op_eq (pv 1) pe_str (nomark _)) (pss_one (ps_ret (C8.pe_c c_place_term hr (by first | decide | omega) rfl (pa_cons (pe_ix (ix_tupK (K := K) rfl) (pe_ix (ix_tupK (K := K) rfl) (pv 3) pe_int (fun _ _ => rfl)) pe_int (fun _ _ => rfl)) (pa_cons (pe_ix (ix_tupK (K := K) rfl) (pe_ix (ix_tupK (K := K) rfl) (pv 3) pe_int (fun _ _ => rfl)) pe_int (fun _ _ => rfl)) pa_nil))))) pss_nil)
    (pss_cons (ps_if (pt_cmpR op_eq (pv 1) pe_str (nomark _)) (pss_one (ps_ret (C8.pe_c c_column_term hr (by first | decide | omega) rfl (pa_cons (pe_ix (ix_tupK (K := K) rfl) (pe_ix (ix_tupK (K := K) rfl) (pv 3) pe_int (fun _ _ => rfl)) pe_int (fun _ _ => rfl)) (pa_cons (pv 2) (pa_cons (pe_ix (ix_tupK (K := K) rfl) (pe_ix (ix_tupK (K := K) rfl) (pv 3) pe_int (fun _ _ => rfl)) pe_int (fun _ _ => rfl)) pa_nil)))))) pss_nil)
    (pss_one (ps_ret (C8.pe_c c_Lapplied hr (by first | decide | omega) rfl (pa_cons (pv 1) (pa_cons (pv 2) (pa_cons (pe_lc (own := [("_law_part", 5)]) rfl sc_Lbuilt.nd (pi_tupK (K := K) rfl (pv 3)) (blkOk_by (N := N_Lbuilt) (sc := defScope s_Lbuilt) (by decide +kernel)) (fun _ _ _ _ _ => (pg_name (i := 5) sc_Lbuilt.nd rfl (Or.inl rfl))) (fun _ _ _ _ _ => pts_nil) (fun _ _ _ _ _ => (C8.pe_c c_Lbuilt hr (by first | decide | omega) rfl (pa_cons (pv 5) pa_nil)))) pa_nil))))))))))), ?_⟩
    refine ⟨_, rfl, a, _, rfl, SqT.of (hG _ _ ha), rfl, _, _, rfl, _, _, rfl, _, _, rfl, _, _, rfl, rfl, ?_⟩
    have one : so = .column ∨ so = .place → ∃ (w' : List Nat) (b' : Bool) (a0 : Addr) (p0 : Addr), w'.length ≤ 8 ∧ ts = [.mk .row w' [] b'] ∧ pv' = [.ref a0] ∧ G a0 = some (.tup [.str "row", .str (S w'), .ref p0, .bl b']) := fun h => by
      obtain ⟨w', b', e, hl⟩ := h2.one h
      subst e
      cases hts with
      | cons h0 t0 =>
        cases t0
        obtain ⟨a0, p0, pv0, rfl, h1, h3, h4⟩ := h0.parts
        exact ⟨w', b', a0, p0, hl, rfl, rfl, h1⟩
    cases so with
    | zero =>
      obtain rfl := h2.leaf (.inr rfl)
      obtain rfl := h2.nil (.inl rfl)
      obtain rfl := h2.fl (fun h => by cases h)
      refine ⟨_, rfl, rfl, _, rfl, ?_⟩
      walk_at "yes"
      exact ⟨G, rfl, hG, fun G' H' x st hx _ => q G' H' x st hx⟩
    | row =>
      obtain rfl := h2.leaf (.inl rfl)
      refine ⟨_, rfl, rfl, _, rfl, ?_⟩
      walk_at "no"
      refine ⟨_, rfl, rfl, _, rfl, ?_⟩
      walk_at "yes"
      exact ⟨_, rfl, _, rfl, G, w, b, rfl, hG, sh.w8, fun G' H' x st hx _ => q G' H' x st hx⟩
    | place =>
      obtain ⟨w', b', a0, p0, hl', rfl, rfl, h0⟩ := one (.inr rfl)
      obtain rfl := h2.nil (.inr rfl)
      obtain rfl := h2.fl (fun h => by cases h)
      refine ⟨_, rfl, rfl, _, rfl, ?_⟩
      walk_at "no"
      refine ⟨_, rfl, rfl, _, rfl, ?_⟩
      walk_at "no"
      refine ⟨_, rfl, rfl, _, rfl, ?_⟩
      walk_at "yes"
      exact ⟨_, rfl, p, _, 0, _, rfl, rfl, SqT.of (hG _ _ hp), atI_nat (j := 0) rfl, a0, _, 1, _, rfl, rfl, SqT.of (hG _ _ h0), atI_nat (j := 1) rfl, _, rfl, p, _, 0, _, rfl, rfl, SqT.of (hG _ _ hp), atI_nat (j := 0) rfl, a0, _, 3, _, rfl, rfl, SqT.of (hG _ _ h0), atI_nat (j := 3) rfl, G, w', b', rfl, hG, hl', fun G' H' x st hx _ => q G' H' x st hx⟩
    | column =>
      obtain ⟨w', b', a0, p0, hl', rfl, rfl, h0⟩ := one (.inl rfl)
      obtain rfl := h2.fl (fun h => by cases h)
      refine ⟨_, rfl, rfl, _, rfl, ?_⟩
      walk_at "no"
      refine ⟨_, rfl, rfl, _, rfl, ?_⟩
      walk_at "no"
      refine ⟨_, rfl, rfl, _, rfl, ?_⟩
      walk_at "no"
      refine ⟨_, rfl, rfl, _, rfl, ?_⟩
      walk_at "yes"
      exact ⟨_, rfl, p, _, 0, _, rfl, rfl, SqT.of (hG _ _ hp), atI_nat (j := 0) rfl, a0, _, 1, _, rfl, rfl, SqT.of (hG _ _ h0), atI_nat (j := 1) rfl, _, rfl, _, rfl, p, _, 0, _, rfl, rfl, SqT.of (hG _ _ hp), atI_nat (j := 0) rfl, a0, _, 3, _, rfl, rfl, SqT.of (hG _ _ h0), atI_nat (j := 3) rfl, G, w', w, b', rfl, hG, hl', sh.w8, fun G' H' x st hx _ => q G' H' x st hx⟩
    | func =>
      obtain rfl := h2.fl (fun h => by cases h)
      refine ⟨_, rfl, rfl, _, rfl, ?_⟩
      walk_at "no"
      refine ⟨_, rfl, rfl, _, rfl, ?_⟩
      walk_at "no"
      refine ⟨_, rfl, rfl, _, rfl, ?_⟩
      walk_at "no"
      refine ⟨_, rfl, rfl, _, rfl, ?_⟩
      walk_at "no"
      refine ⟨_, rfl, _, rfl, _, rfl, p, rfl, ⟨_, SqT.of (hG _ _ hp)⟩, fun D hD => ?_⟩
      have gD : G D = none := hG.free hD
      refine lc_tup (K := K) (a := p) (xs := pv') (fun i H' => ∃ (G' : Hp) (xs : List V), Step none G H G' H' ∧ G' D = none ∧ H' D = some (.lst xs) ∧ All2 (TAt (CT K) G') xs (ts.take i)) ⟨G, [], (Step.refl hG).loc hD gD, gD, upd_same, .nil⟩ ?_ ?_ ?_
      · rintro i H' _ ⟨G', xs, st, _⟩
        exact SqT.of (st.gh _ _ (st.gg _ _ hp))
      · rintro i x H' hx ⟨G', xs, st, g', hL, hall⟩
        obtain ⟨t, ht, mt⟩ := get_pair hts.len hx
        refine ⟨rfl, ?_⟩
        unfold tYes
        refine iteT ⟨_, rfl, G', t, x, rfl, st.gh, (hts.get hx ht).same st.gg, hs t mt, fun G2 H2 y s2 hy => ⟨_, s2.same _ _ hL, ?_, G2, xs ++ [.ref y], ?_, ?_, upd_same, ?_⟩⟩
        · have := sh.t3
          have := hall.len
          rw [List.length_take] at this
          omega
        · exact (st.trans s2).loc hD (s2.out g' (by rw [hL]; exact fun z => by cases z))
        · exact s2.out g' (by rw [hL]; exact fun z => by cases z)
        · rw [take_one ht]
          exact (hall.mono fun _ _ r => r.same s2.gg).app (.cons hy .nil)
      rintro H' ⟨G', xs, st, g', hL, hall⟩
      rw [hts.len, List.take_length] at hall
      exact ⟨G', .func, w, D, xs, ts, rfl, .inl rfl, st.gh, hL, hall, sh, h2.more (.inl rfl), fun G2 H2 x s2 hx _ => q G2 H2 x (st.trans s2) hx⟩
    | rule =>
      obtain rfl := h2.fl (fun h => by cases h)
      refine ⟨_, rfl, rfl, _, rfl, ?_⟩
      walk_at "no"
      refine ⟨_, rfl, rfl, _, rfl, ?_⟩
      walk_at "no"
      refine ⟨_, rfl, rfl, _, rfl, ?_⟩
      walk_at "no"
      refine ⟨_, rfl, rfl, _, rfl, ?_⟩
      walk_at "no"
      refine ⟨_, rfl, _, rfl, _, rfl, p, rfl, ⟨_, SqT.of (hG _ _ hp)⟩, fun D hD => ?_⟩
      have gD : G D = none := hG.free hD
      refine lc_tup (K := K) (a := p) (xs := pv') (fun i H' => ∃ (G' : Hp) (xs : List V), Step none G H G' H' ∧ G' D = none ∧ H' D = some (.lst xs) ∧ All2 (TAt (CT K) G') xs (ts.take i)) ⟨G, [], (Step.refl hG).loc hD gD, gD, upd_same, .nil⟩ ?_ ?_ ?_
      · rintro i H' _ ⟨G', xs, st, _⟩
        exact SqT.of (st.gh _ _ (st.gg _ _ hp))
      · rintro i x H' hx ⟨G', xs, st, g', hL, hall⟩
        obtain ⟨t, ht, mt⟩ := get_pair hts.len hx
        refine ⟨rfl, ?_⟩
        unfold tYes
        refine iteT ⟨_, rfl, G', t, x, rfl, st.gh, (hts.get hx ht).same st.gg, hs t mt, fun G2 H2 y s2 hy => ⟨_, s2.same _ _ hL, ?_, G2, xs ++ [.ref y], ?_, ?_, upd_same, ?_⟩⟩
        · have := sh.t3
          have := hall.len
          rw [List.length_take] at this
          omega
        · exact (st.trans s2).loc hD (s2.out g' (by rw [hL]; exact fun z => by cases z))
        · exact s2.out g' (by rw [hL]; exact fun z => by cases z)
        · rw [take_one ht]
          exact (hall.mono fun _ _ r => r.same s2.gg).app (.cons hy .nil)
      rintro H' ⟨G', xs, st, g', hL, hall⟩
      rw [hts.len, List.take_length] at hall
      exact ⟨G', .rule, w, D, xs, ts, rfl, .inr rfl, st.gh, hL, hall, sh, h2.more (.inr rfl), fun G2 H2 x s2 hx _ => q G2 H2 x (st.trans s2) hx⟩
end Pf
namespace Bs
open PySem PySem.Spec PyProof.Rows L2 SX
theorem TAt.parts {C : Addr} {G : Hp} {v : V} {so : So} {w : List Nat} {ts : List Mt} {b : Bool} (h : TAt C G v (.mk so w ts b)) : ∃ (a dx l : Addr) (vs : List V), v = .ref a ∧ G a = some (.ins C dx (tf so w l b (Mt.mk so w ts b).txt (Mt.mk so w ts b).dep)) ∧ G l = some (.lst vs) ∧ All2 (TAt C G) vs ts := by
  cases h with
  | @mk a dx l so w vs ts b ha hp hl h => exact ⟨a, dx, l, vs, rfl, by rw [Mt.txt_mk, Mt.dep_mk]; exact ha, hp, .of hl h⟩
def spIs (C : Addr) (n : Nat) : Sp := fun vs H Q _ => ∃ (G : Hp) (m : Mt) (v v' : V), vs = [v, v'] ∧ Same G H ∧ TAt C G v m ∧ MAt G v' m ∧ Wt n m ∧ ∀ H' : Hp, Step none G H G H' → Q (.bl true) H'
theorem rep_app (b : Bool) (i : Nat) : (List.replicate i b).map V.bl ++ [V.bl b] = (List.replicate (i + 1) b).map V.bl := by
  rw [List.replicate_succ', List.map_append]
  rfl
theorem all_rep (i : Nat) : (List.replicate i true).all id = true := by
  rw [List.all_eq_true]
  intro x hx
  rw [(List.mem_replicate.mp hx).2]
  rfl
end Bs
namespace Pf
open PySem PySem.Spec PyProof.Rows L2 Bs SX
variable {P : Program} {w : World} {K : PySem.W.Frag} {mg : Str → Option Value} {base : Heap}
local macro_rules | `(tactic| walk_at "no") => `(tactic| refine ite2 (fun c => absurd c (by simp)) (fun _ => ?_))
abbrev N_Lis : List Str := ["_law_term_here", "_law_model", "_law_kind", "_law_name", "_law_parts", "_law_marked", "_law_part", "_law_inner"]
theorem sc_Lis : FnScope N_Lis ["_law_term_here", "_law_model"] (defScope s_Lis) := ⟨rfl, rfl, rfl, by decide +kernel, rfl, by decide +kernel, by decide +kernel⟩
theorem c_Lis (T : Tx K mg) : ∀ n : Nat, C8.Cal P w K mg base (n + 4) "_law_is" (spIs (CT K) n) []
  | 0 => by
    obtain ⟨fd, F⟩ := f_Lis T
    exact Cal.mono (cal_none F (g_law_is T) (F.bindsN (ps := ["_law_term_here", "_law_model"]) fun _ _ _ _ _ _ us hl => match us, hl with | [_, _], _ => rfl) fun vs H Q E ⟨G, m, v, v', _, _, _, _, h, _⟩ => nomatch h) (Nat.zero_le _)
  | n + 1 => by
    obtain ⟨fd, F⟩ := f_Lis T
    have c_Lis := c_Lis T n
    have c_Ltext := c_Ltext (P := P) (w := w) (base := base) T (n + 1)
    have pe_g_Term : ∀ {X : Cx} {pos : Pos}, X.mg = mg → Gl X "Term" → PE X (.Name "Term" pos) (tC (.ref (CT K))) := fun h1 h2 => C8.pe_gc h2 ⟨_, by rw [h1]; exact g_Term T, rfl⟩
    have pe_g_list : ∀ {X : Cx} {pos : Pos}, X.mg = mg → Gl X "list" → PE X (.Name "list" pos) (tC (.ty "list")) := fun h1 h2 => pe_bltn h2 (by rw [h1]; exact z_list T) boot_list rfl
    have pe_g_bool : ∀ {X : Cx} {pos : Pos}, X.mg = mg → Gl X "bool" → PE X (.Name "bool" pos) (tC (.ty "bool")) := fun h1 h2 => pe_bltn h2 (by rw [h1]; exact z_bool T) boot_bool rfl
    have pe_g_str : ∀ {X : Cx} {pos : Pos}, X.mg = mg → Gl X "str" → PE X (.Name "str" pos) (tC (.ty "str")) := fun h1 h2 => pe_bltn h2 (by rw [h1]; exact z_str T) boot_str rfl
    show C8.Cal P w K mg base (n + 4 + 1) _ _ _
    refine mkCal F (g_law_is T) (F.bindsN fun _ _ _ _ _ _ us hl => match us, hl with | [_, _], _ => rfl) .nil sc_Lis (fun vs H Q E h => ?_) (fun cdv A outer s H vs Q E hr h => ?_)
    · obtain ⟨G, m, v, v', rfl, _⟩ := h
      rfl
    obtain ⟨G, m, v, v', rfl, hG, ht, hm, hw, q⟩ := h
    have sl : sizeLine = 16777216 := rfl
    have C0 := cls_Term_ T
    have I0 := Hd.insB_ok (ex_0 T)
    have hw0 := hw
    cases hw with
    | @mk n so w ts b h2 hs =>
    have ht0 := ht
    have hm0 := hm
    obtain ⟨a, p, pv', rfl, ha, hp, hts⟩ := hm.parts
    obtain ⟨ta, dx, l, tv, rfl, hta, hl, htt⟩ := ht.parts
    have sh := h2.sh
    refine ⟨_, (pss_cons (ps_asg (pv 1) (pg_tup rfl (pgs_cons (pg_name (i := 2) sc_Lis.nd rfl (Or.inl rfl)) (pgs_cons (pg_name (i := 3) sc_Lis.nd rfl (Or.inl rfl)) (pgs_cons (pg_name (i := 4) sc_Lis.nd rfl (Or.inl rfl)) (pgs_cons (pg_name (i := 5) sc_Lis.nd rfl (Or.inl rfl)) pgs_nil))))))
    (pss_cons (ps_if (PW.pt (pw_or (pt_not (pt_val (pe_callB (call_isiK' (K := K) rfl) (by rfl) (z_isinstance T) boot_isinstance (pa_cons (pv 0) (pa_cons (pe_g_Term rfl rfl) pa_nil))))) (pw_or (pt_cmpR op_ne (pe_fldK (K := K) rfl (pv 0) (by rfl)) (pv 2) (nomark _)) (pw_or (pt_cmpR op_ne (pe_fldK (K := K) rfl (pv 0) (by rfl)) (pv 3) (nomark _)) (pw_or1 (pt_not (pt_val (pe_callB (call_isiK' (K := K) rfl) (by rfl) (z_isinstance T) boot_isinstance (pa_cons (pe_fldK (K := K) rfl (pv 0) (by rfl)) (pa_cons (pe_g_list rfl rfl) pa_nil)))))))))) (pss_one (ps_ret pe_bl)) pss_nil)
    (pss_cons (ps_if (PW.pt (pw_or (pt_not (pt_val (pe_callB (call_isiK' (K := K) rfl) (by rfl) (z_isinstance T) boot_isinstance (pa_cons (pe_fldK (K := K) rfl (pv 0) (by rfl)) (pa_cons (pe_g_bool rfl rfl) pa_nil))))) (pw_or (pt_cmpR op_ne (pe_fldK (K := K) rfl (pv 0) (by rfl)) (pv 5) (nomark _)) (pw_or1 (pt_cmpR op_ne (pe_callB (call_len_seqK (K := K) rfl) (by rfl) (z_len T) boot_len (pa_cons (pe_fldK (K := K) rfl (pv 0) (by rfl)) pa_nil)) (pe_callB (call_len_seqK (K := K) rfl) (by rfl) (z_len T) boot_len (pa_cons (pv 4) pa_nil)) (nomark _)))))) (pss_one (ps_ret pe_bl)) pss_nil)
    (pss_cons (ps_if (PW.pt (pw_or (pt_not (pt_val (pe_callB (call_isiK' (K := K) rfl) (by rfl) (z_isinstance T) boot_isinstance (pa_cons (pe_fldK (K := K) rfl (pv 0) (by rfl)) (pa_cons (pe_g_str rfl rfl) pa_nil))))) (pw_or (pt_cmpR op_ne (pe_fldK (K := K) rfl (pv 0) (by rfl)) (C8.pe_c c_Ltext hr (by first | decide | omega) rfl (pa_cons (pv 1) pa_nil)) (nomark _)) (pw_or1 (pt_cmpR op_ne (pe_callTy (call_strO (own_str T rfl rfl rfl rfl rfl) (hr.mono (by omega))) (by rfl) (z_str T) boot_str (pa_cons (pv 0) pa_nil)) (pe_fldK (K := K) rfl (pv 0) (by rfl)) (nomark _)))))) (pss_one (ps_ret pe_bl)) pss_nil)
    (pss_one (ps_ret (pe_callB (cr_all rfl) (by rfl) (z_all T) boot_all (pa_cons (pe_lc (own := [("_law_part", 6), ("_law_inner", 7)]) rfl sc_Lis.nd (pi_zipM (K := K) rfl (by rfl) (z_zip T) (pa_cons (pe_fldK (K := K) rfl (pv 0) (by rfl)) (pa_cons (pv 4) pa_nil))) (blkOk_by (N := N_Lis) (sc := defScope s_Lis) (by decide +kernel)) (fun _ _ _ _ _ => (pg_tupK (K := K) (n := 2) rfl rfl (pgs_cons (pg_name (i := 6) sc_Lis.nd rfl (Or.inl rfl)) (pgs_cons (pg_name (i := 7) sc_Lis.nd rfl (Or.inl rfl)) pgs_nil)))) (fun _ _ _ _ _ => pts_nil) (fun _ _ _ _ _ => (C8.pe_c c_Lis hr (by first | decide | omega) rfl (pa_cons (pv 6) (pa_cons (pv 7) pa_nil))))) pa_nil)))))))), ?_⟩
    refine ⟨_, rfl, a, _, rfl, SqT.of (hG _ _ ha), rfl, _, _, rfl, _, _, rfl, _, _, rfl, _, _, rfl, rfl, ?_⟩
    refine ⟨_, rfl, .ref ta, .ref (CT K), .ref (CT K), .ref (CT K), true, rfl, .own _, .base (.ins (hG _ _ hta) C0 I0.ha I0.hn I0.htk I0.hm), I0.me, true, rfl, ?_⟩
    walk_at "no"
    refine ⟨_, rfl, ta, CT K, dx, _, _, rfl, hG _ _ hta, C0, noat_Term_kind T, tf_kind, _, rfl, rfl, _, rfl, ?_⟩
    walk_at "no"
    refine ⟨_, rfl, ta, CT K, dx, _, _, rfl, hG _ _ hta, C0, noat_Term_name T, tf_name, _, rfl, rfl, _, rfl, ?_⟩
    walk_at "no"
    refine ⟨_, rfl, ta, CT K, dx, _, _, rfl, hG _ _ hta, C0, noat_Term_parts T, tf_parts, .ref l, .ty "list", .type "list", .type "list", true, rfl, .ty _, .base (.lst (hG _ _ hl)), kit_ty (by decide +kernel), true, rfl, ?_⟩
    walk_at "no"
    refine ⟨_, rfl, ta, CT K, dx, _, _, rfl, hG _ _ hta, C0, noat_Term_marked T, tf_marked, .bl b, .ty "bool", .type "bool", .type "bool", true, rfl, .ty _, .base (.bl b), kit_ty (by decide +kernel), true, rfl, ?_⟩
    walk_at "no"
    refine ⟨_, rfl, ta, CT K, dx, _, _, rfl, hG _ _ hta, C0, noat_Term_marked T, tf_marked, _, rfl, rfl, _, rfl, ?_⟩
    walk_at "no"
    refine ⟨_, rfl, ta, CT K, dx, _, _, rfl, hG _ _ hta, C0, noat_Term_parts T, tf_parts, l, tv, rfl, .inl (SqL.of (hG _ _ hl)), _, rfl, p, pv', rfl, .inr (SqT.of (hG _ _ hp)), rfl, _, rfl, ?_⟩
    refine ite2 (fun c => absurd c (by rw [htt.len, hts.len]; simp)) (fun _ => ?_)
    refine ⟨_, rfl, ta, CT K, dx, _, _, rfl, hG _ _ hta, C0, noat_Term_text T, tf_text, .str _, .ty "str", .type "str", .type "str", true, rfl, .ty _, .base (.str _), kit_ty (by decide +kernel), true, rfl, ?_⟩
    walk_at "no"
    refine ⟨_, rfl, ta, CT K, dx, _, _, rfl, hG _ _ hta, C0, noat_Term_text T, tf_text, _, rfl, G, _, _, rfl, hG, hm0, hw0, fun H1 s1 => ⟨rfl, _, rfl, ?_⟩⟩
    walk_at "no"
    refine ⟨_, rfl, ta, dx, _, _, rfl, s1.gh _ _ hta, ⟨G, _, s1.gh, ht0, rfl⟩, _, rfl, ta, CT K, dx, _, _, rfl, s1.gh _ _ hta, C0, noat_Term_text T, tf_text, rfl, _, rfl, ?_⟩
    walk_at "no"
    refine ⟨_, rfl, ta, CT K, dx, _, _, rfl, s1.gh _ _ hta, C0, noat_Term_parts T, tf_parts, _, rfl, l, p, tv, pv', rfl, SqL.of (s1.gh _ _ hl), SqT.of (s1.gh _ _ hp), fun D hD => ?_⟩
    have gD : G D = none := s1.gh.free hD
    refine lc_zipM (K := K) (a := l) (b := p) (xs := tv) (ys := pv') (htt.len.trans hts.len.symm) (fun i H' => Step none G H G H' ∧ H' D = some (.lst ((List.replicate i true).map V.bl))) ⟨s1.loc (s1.free hD) gD, upd_same⟩ ?_ ?_ ?_
    · rintro i H' ⟨st, _⟩
      exact ⟨SqL.of (st.gh _ _ hl), SqT.of (st.gh _ _ hp)⟩
    · rintro i x y Z H' hx hy ⟨st, hL⟩ hZ
      obtain ⟨t, ht, mt⟩ := get_pair hts.len hy
      have hn : Z ≠ D := fun e => by rw [e, hL] at hZ; cases hZ
      have s2 := st.loc (o := .tup [x, y]) (st.free hZ) (st.gh.free hZ)
      refine ⟨Z, _, rfl, SqT.of upd_same, rfl, _, _, rfl, _, _, rfl, rfl, rfl, ?_⟩
      unfold tYes
      refine iteT ⟨_, rfl, _, rfl, G, t, x, y, rfl, s2.gh, htt.get hx ht, hts.get hy ht, hs t mt, fun H2 s3 => ⟨_, s3.same _ _ ((upd_ne hn.symm).trans hL), ?_, (s2.trans s3).loc (s1.free hD) gD, ?_⟩⟩
      · have := sh.t3
        have := (List.getElem?_eq_some_iff.mp ht).1
        rw [List.length_map, List.length_replicate]
        omega
      · rw [upd_same, rep_app]
    rintro H' ⟨st, hL⟩
    refine ⟨D, _, rfl, SqL.of hL, ?_⟩
    rw [all_rep]
    exact q H' st
end Pf
namespace Bs
open PySem PySem.Spec PyProof.Rows L2 SX
/-! ### a term's text tells the term -/
theorem NameOk.nm {w : List Nat} (h : NameOk (S w)) : Nm w := h.1
def End1 (r : List Nat) : Prop := ∀ c, r.head? = some c → ¬ sgn c
theorem End1.nil : End1 [] := fun c h => by cases h
theorem End1.cons {c : Nat} {r : List Nat} (h : ¬ sgn c) : End1 (c :: r) := fun d e => by cases e; exact h
theorem span : ∀ {w w' r r' : List Nat}, (∀ c ∈ w, sgn c) → (∀ c ∈ w', sgn c) → End1 r → End1 r' → w ++ r = w' ++ r' → w = w' ∧ r = r'
  | [], [], _, _, _, _, _, _, e => ⟨rfl, e⟩
  | [], c :: w', r, r', _, h', hr, _, e => by
    have e1 : r = c :: (w' ++ r') := e
    exact absurd (h' c List.mem_cons_self) (hr c (by rw [e1]; rfl))
  | c :: w, [], r, r', h, _, _, hr', e => by
    have e1 : c :: (w ++ r) = r' := e
    exact absurd (h c List.mem_cons_self) (hr' c (by rw [← e1]; rfl))
  | c :: w, d :: w', r, r', h, h', hr, hr', e => by
    have e1 : c :: (w ++ r) = d :: (w' ++ r') := e
    obtain ⟨rfl, e2⟩ := List.cons.inj e1
    obtain ⟨rfl, e3⟩ := span (fun c hc => h c (List.mem_cons_of_mem _ hc)) (fun c hc => h' c (List.mem_cons_of_mem _ hc)) hr hr' e2
    exact ⟨rfl, e3⟩
def Tl (r : List Nat) : Prop := r = [] ∨ ∃ c q, r = c :: q ∧ (c = 44 ∨ c = 41 ∨ c = 93)
theorem no_sgn : ¬ sgn 44 ∧ ¬ sgn 41 ∧ ¬ sgn 93 ∧ ¬ sgn 46 ∧ ¬ sgn 39 ∧ ¬ sgn 40 ∧ ¬ sgn 91 ∧ ¬ sgn 64 ∧ ¬ sgn 32 := by
  unfold sgn ltr
  omega
theorem Tl.end1 {r : List Nat} (h : Tl r) : End1 r := by
  rcases h with rfl | ⟨c, q, rfl, h | h | h⟩
  · exact End1.nil
  · exact End1.cons (h ▸ no_sgn.1)
  · exact End1.cons (h ▸ no_sgn.2.1)
  · exact End1.cons (h ▸ no_sgn.2.2.1)
theorem row_txt {t : Mt} (h : IsRow t) : ∃ (w : List Nat) (b : Bool), t = .mk .row w [] b ∧ NameOk (S w) ∧ t.txt = w ++ (if b = true then [39] else []) := by
  cases h with
  | @mk w b h =>
    refine ⟨w, b, rfl, h, ?_⟩
    rw [Mt.txt_mk]
    unfold tx
    cases b <;> simp
theorem col_txt {w : List Nat} {r : Mt} {b : Bool} : (Mt.mk .column w [r] b).txt = r.txt ++ [46] ++ w := by
  rw [Mt.txt_mk]
  rfl
theorem fn_txt {w : List Nat} {ts : List Mt} {b : Bool} : (Mt.mk .func w ts b).txt = w ++ [40] ++ TL.joinL [44, 32] (ts.map Mt.txt) ++ [41] := by
  rw [Mt.txt_mk]
  rfl
theorem rule_txt {w : List Nat} {ts : List Mt} {b : Bool} : (Mt.mk .rule w ts b).txt = w ++ [91] ++ TL.joinL [44, 32] (ts.map Mt.txt) ++ [93] := by
  rw [Mt.txt_mk]
  rfl
/-- one text before another, told apart by what follows -/
def InjV (t : Mt) : Prop := ∀ {n : Nat} {t' : Mt} {r r' : List Nat}, IsVal n t' → Tl r → Tl r' → t.txt ++ r = t'.txt ++ r' → t = t' ∧ r = r'
theorem join_inj {z : Nat} (hz : z = 41 ∨ z = 93) : ∀ {ts ts' : List Mt} {n : Nat} {r r' : List Nat}, (∀ t ∈ ts, InjV t) → (∀ t ∈ ts', IsVal n t) → 1 ≤ ts.length → 1 ≤ ts'.length →
    TL.joinL [44, 32] (ts.map Mt.txt) ++ (z :: r) = TL.joinL [44, 32] (ts'.map Mt.txt) ++ (z :: r') → ts = ts' ∧ r = r'
  | [], _, _, _, _, _, _, h, _, _ => absurd h (by simp)
  | _ :: _, [], _, _, _, _, _, _, h, _ => absurd h (by simp)
  | [t], [t'], n, r, r', h1, h2, _, _, e => by
    have tl : ∀ q : List Nat, Tl (z :: q) := fun q => .inr ⟨z, q, rfl, .inr hz⟩
    obtain ⟨rfl, e2⟩ := h1 t List.mem_cons_self (h2 t' List.mem_cons_self) (tl r) (tl r') e
    exact ⟨rfl, (List.cons.inj e2).2⟩
  | [t], t' :: u' :: q', n, r, r', h1, h2, _, _, e => by
    have tl : ∀ q : List Nat, Tl (z :: q) := fun q => .inr ⟨z, q, rfl, .inr hz⟩
    have e1 : t.txt ++ (z :: r) = t'.txt ++ (44 :: (32 :: (TL.joinL [44, 32] ((u' :: q').map Mt.txt) ++ (z :: r')))) := by
      rw [show t.txt ++ (z :: r) = TL.joinL [44, 32] ([t].map Mt.txt) ++ (z :: r) from rfl, e]
      simp [TL.joinL]
    obtain ⟨_, e2⟩ := h1 t List.mem_cons_self (h2 t' List.mem_cons_self) (tl r) (.inr ⟨44, _, rfl, .inl rfl⟩) e1
    have := (List.cons.inj e2).1
    omega
  | t :: u :: q, [t'], n, r, r', h1, h2, _, _, e => by
    have tl : ∀ q : List Nat, Tl (z :: q) := fun q => .inr ⟨z, q, rfl, .inr hz⟩
    have e1 : t.txt ++ (44 :: (32 :: (TL.joinL [44, 32] ((u :: q).map Mt.txt) ++ (z :: r)))) = t'.txt ++ (z :: r') := by
      rw [show t'.txt ++ (z :: r') = TL.joinL [44, 32] ([t'].map Mt.txt) ++ (z :: r') from rfl, ← e]
      simp [TL.joinL]
    obtain ⟨_, e2⟩ := h1 t List.mem_cons_self (h2 t' List.mem_cons_self) (.inr ⟨44, _, rfl, .inl rfl⟩) (tl r') e1
    have := (List.cons.inj e2).1
    omega
  | t :: u :: q, t' :: u' :: q', n, r, r', h1, h2, _, _, e => by
    have e1 : t.txt ++ (44 :: (32 :: (TL.joinL [44, 32] ((u :: q).map Mt.txt) ++ (z :: r)))) = t'.txt ++ (44 :: (32 :: (TL.joinL [44, 32] ((u' :: q').map Mt.txt) ++ (z :: r')))) := by
      have e0 : TL.joinL [44, 32] ((t :: u :: q).map Mt.txt) ++ (z :: r) = TL.joinL [44, 32] ((t' :: u' :: q').map Mt.txt) ++ (z :: r') := e
      simpa [TL.joinL] using e0
    obtain ⟨rfl, e2⟩ := h1 t List.mem_cons_self (h2 t' List.mem_cons_self) (.inr ⟨44, _, rfl, .inl rfl⟩) (.inr ⟨44, _, rfl, .inl rfl⟩) e1
    obtain ⟨e3, e4⟩ := join_inj hz (ts := u :: q) (ts' := u' :: q') (n := n) (r := r) (r' := r') (fun t ht => h1 t (List.mem_cons_of_mem _ ht)) (fun t ht => h2 t (List.mem_cons_of_mem _ ht)) (by simp) (by simp) (List.cons.inj (List.cons.inj e2).2).2
    exact ⟨by rw [e3], e4⟩
theorem val_inj : ∀ {n : Nat} {t : Mt}, IsVal n t → InjV t := fun {n t} h => by
  induction h with
  | @col n w r h hr =>
    intro n' t' q q' h' tq tq' e
    obtain ⟨w0, b0, rfl, hw0, er⟩ := row_txt hr
    rw [col_txt, er] at e
    cases h' with
    | @col n' w' r' hh' hr' =>
      obtain ⟨w1, b1, rfl, hw1, er'⟩ := row_txt hr'
      rw [col_txt, er'] at e
      have e1 : w0 ++ ((if b0 = true then [39] else []) ++ (46 :: (w ++ q))) = w1 ++ ((if b1 = true then [39] else []) ++ (46 :: (w' ++ q'))) := by simpa using e
      have en : ∀ (b : Bool) (x : List Nat), End1 ((if b = true then [39] else []) ++ (46 :: x)) := fun b x => by
        cases b
        · exact End1.cons no_sgn.2.2.2.1
        · exact End1.cons no_sgn.2.2.2.2.1
      obtain ⟨rfl, e2⟩ := span hw0.nm.sg hw1.nm.sg (en _ _) (en _ _) e1
      have e3 : b0 = b1 ∧ w ++ q = w' ++ q' := by
        cases b0 <;> cases b1 <;> simp at e2 ⊢ <;> exact e2
      obtain ⟨rfl, e4⟩ := e3
      obtain ⟨rfl, e5⟩ := span h.nm.sg hh'.nm.sg tq.end1 tq'.end1 e4
      exact ⟨rfl, e5⟩
    | @fn n' w' ts' hh' h1' h3' hs' =>
      rw [fn_txt] at e
      have e1 : w0 ++ ((if b0 = true then [39] else []) ++ (46 :: (w ++ q))) = w' ++ (40 :: (TL.joinL [44, 32] (ts'.map Mt.txt) ++ (41 :: q'))) := by simpa using e
      have en : End1 ((if b0 = true then [39] else []) ++ (46 :: (w ++ q))) := by
        cases b0
        · exact End1.cons no_sgn.2.2.2.1
        · exact End1.cons no_sgn.2.2.2.2.1
      obtain ⟨_, e2⟩ := span hw0.nm.sg hh'.nm.sg en (End1.cons no_sgn.2.2.2.2.2.1) e1
      cases b0 <;> simp at e2
  | @fn n w ts h h1 h3 hs ih =>
    intro n' t' q q' h' tq tq' e
    rw [fn_txt] at e
    cases h' with
    | @col n' w' r' hh' hr' =>
      obtain ⟨w1, b1, rfl, hw1, er'⟩ := row_txt hr'
      rw [col_txt, er'] at e
      have e1 : w ++ (40 :: (TL.joinL [44, 32] (ts.map Mt.txt) ++ (41 :: q))) = w1 ++ ((if b1 = true then [39] else []) ++ (46 :: (w' ++ q'))) := by simpa using e
      have en : End1 ((if b1 = true then [39] else []) ++ (46 :: (w' ++ q'))) := by
        cases b1
        · exact End1.cons no_sgn.2.2.2.1
        · exact End1.cons no_sgn.2.2.2.2.1
      obtain ⟨_, e2⟩ := span h.nm.sg hw1.nm.sg (End1.cons no_sgn.2.2.2.2.2.1) en e1
      cases b1 <;> simp at e2
    | @fn n' w' ts' hh' h1' h3' hs' =>
      rw [fn_txt] at e
      have e1 : w ++ (40 :: (TL.joinL [44, 32] (ts.map Mt.txt) ++ (41 :: q))) = w' ++ (40 :: (TL.joinL [44, 32] (ts'.map Mt.txt) ++ (41 :: q'))) := by simpa using e
      obtain ⟨rfl, e2⟩ := span h.nm.sg hh'.nm.sg (End1.cons no_sgn.2.2.2.2.2.1) (End1.cons no_sgn.2.2.2.2.2.1) e1
      obtain ⟨rfl, e3⟩ := join_inj (.inl rfl) (fun t ht => ih t ht) hs' h1 h1' (List.cons.inj e2).2
      exact ⟨rfl, e3⟩
end Bs
namespace Bs
open PySem PySem.Spec PyProof.Rows L2 SX
/-! ### good terms: texts tell them -/
inductive Gd : Mt → Prop where
  | row {t : Mt} (h : IsRow t) : Gd t
  | place {r : Mt} (h : IsRow r) : Gd (.mk .place [] [r] false)
  | zero : Gd (.mk .zero [] [] false)
  | val {n : Nat} {t : Mt} (h : IsVal n t) : Gd t
  | rule {n : Nat} {w : List Nat} {ts : List Mt} (h : NameOk (S w)) (h1 : 1 ≤ ts.length) (hs : ∀ t ∈ ts, IsVal n t) : Gd (.mk .rule w ts false)
theorem IsTerm.gd {t : Mt} (h : IsTerm t) : Gd t := by
  cases h with
  | row h => exact .row h
  | place h => exact .place h
  | zero => exact .zero
  | val h => exact .val h
  | rule h h1 h3 hs => exact .rule h h1 hs
theorem Gd.part {t : Mt} (h : Gd t) : ∀ {so : So} {w : List Nat} {ts : List Mt} {b : Bool}, t = .mk so w ts b → ∀ u ∈ ts, Gd u := by
  intro so w ts b e u hu
  cases h with
  | row h => cases h; cases e; cases hu
  | place h => cases e; rw [List.mem_singleton.mp hu]; exact .row h
  | zero => cases e; cases hu
  | val h =>
    cases h with
    | col h hr => cases e; rw [List.mem_singleton.mp hu]; exact .row hr
    | fn h h1 h3 hs => cases e; exact .val (hs u hu)
  | rule h h1 hs => cases e; exact .val (hs u hu)
theorem nm_head {w q : List Nat} (h : Nm w) : ∃ c, (w ++ q).head? = some c ∧ ltr c := by
  cases w with
  | nil => exact absurd h.pos (by simp)
  | cons c r => exact ⟨c, rfl, h.hd c rfl⟩
theorem val_shape {n : Nat} {t : Mt} (h : IsVal n t) : ∃ w q : List Nat, Nm w ∧ t.txt = w ++ q ∧ ((∃ x, q = 46 :: x) ∨ (∃ x, q = 39 :: 46 :: x) ∨ ∃ x, q = 40 :: x) := by
  cases h with
  | @col n w r h hr =>
    obtain ⟨w0, b0, rfl, hw0, er⟩ := row_txt hr
    rw [col_txt, er]
    cases b0
    · exact ⟨w0, 46 :: w, hw0.nm, by simp, .inl ⟨_, rfl⟩⟩
    · exact ⟨w0, 39 :: 46 :: w, hw0.nm, by simp, .inr (.inl ⟨_, rfl⟩)⟩
  | @fn n w ts h h1 h3 hs =>
    rw [fn_txt]
    exact ⟨w, 40 :: (TL.joinL [44, 32] (ts.map Mt.txt) ++ [41]), h.nm, by simp, .inr (.inr ⟨_, rfl⟩)⟩
theorem row_shape {t : Mt} (h : IsRow t) : ∃ w q : List Nat, Nm w ∧ t.txt = w ++ q ∧ (q = [] ∨ q = [39]) := by
  obtain ⟨w, b, rfl, hw, e⟩ := row_txt h
  exact ⟨w, _, hw.nm, e, by cases b <;> simp⟩
theorem rule_shape {w : List Nat} {ts : List Mt} (h : NameOk (S w)) : ∃ w' q : List Nat, Nm w' ∧ (Mt.mk .rule w ts false).txt = w' ++ q ∧ ∃ x, q = 91 :: x :=
  ⟨w, 91 :: (TL.joinL [44, 32] (ts.map Mt.txt) ++ [93]), h.nm, by rw [rule_txt]; simp, _, rfl⟩
theorem place_txt {r : Mt} : (Mt.mk .place [] [r] false).txt = 64 :: r.txt := by
  rw [Mt.txt_mk]
  rfl
theorem zero_txt : (Mt.mk .zero [] [] false).txt = [48] := by
  rw [Mt.txt_mk]
  rfl
theorem ends {q : List Nat} (h : q = [] ∨ q = [39] ∨ (∃ x, q = 46 :: x) ∨ (∃ x, q = 39 :: 46 :: x) ∨ (∃ x, q = 40 :: x) ∨ ∃ x, q = 91 :: x) : End1 q := by
  rcases h with rfl | rfl | ⟨x, rfl⟩ | ⟨x, rfl⟩ | ⟨x, rfl⟩ | ⟨x, rfl⟩
  · exact End1.nil
  · exact End1.cons no_sgn.2.2.2.2.1
  · exact End1.cons no_sgn.2.2.2.1
  · exact End1.cons no_sgn.2.2.2.2.1
  · exact End1.cons no_sgn.2.2.2.2.2.1
  · exact End1.cons no_sgn.2.2.2.2.2.2.1
theorem row_val {n : Nat} {t t' : Mt} (h : IsRow t) (h' : IsVal n t') : t.txt ≠ t'.txt := fun e => by
  obtain ⟨w, q, hw, e1, hq⟩ := row_shape h
  obtain ⟨w', q', hw', e1', hq'⟩ := val_shape h'
  rw [e1, e1'] at e
  obtain ⟨_, e2⟩ := span hw.sg hw'.sg (ends (by rcases hq with h | h <;> simp [h])) (ends (by rcases hq' with h | h | h <;> simp [h])) e
  rcases hq with rfl | rfl <;> rcases hq' with ⟨x, rfl⟩ | ⟨x, rfl⟩ | ⟨x, rfl⟩ <;> simp at e2
theorem row_rule {w0 : List Nat} {ts : List Mt} {t : Mt} (h : IsRow t) (h' : NameOk (S w0)) : t.txt ≠ (Mt.mk .rule w0 ts false).txt := fun e => by
  obtain ⟨w, q, hw, e1, hq⟩ := row_shape h
  obtain ⟨w', q', hw', e1', hq'⟩ := rule_shape (ts := ts) h'
  rw [e1, e1'] at e
  obtain ⟨_, e2⟩ := span hw.sg hw'.sg (ends (by rcases hq with h | h <;> simp [h])) (ends (by simp [hq'])) e
  obtain ⟨x, rfl⟩ := hq'
  rcases hq with rfl | rfl <;> simp at e2
theorem val_rule {n : Nat} {w0 : List Nat} {ts : List Mt} {t : Mt} (h : IsVal n t) (h' : NameOk (S w0)) : t.txt ≠ (Mt.mk .rule w0 ts false).txt := fun e => by
  obtain ⟨w, q, hw, e1, hq⟩ := val_shape h
  obtain ⟨w', q', hw', e1', hq'⟩ := rule_shape (ts := ts) h'
  rw [e1, e1'] at e
  obtain ⟨_, e2⟩ := span hw.sg hw'.sg (ends (by rcases hq with h | h | h <;> simp [h])) (ends (by simp [hq'])) e
  obtain ⟨x, rfl⟩ := hq'
  rcases hq with ⟨y, rfl⟩ | ⟨y, rfl⟩ | ⟨y, rfl⟩ <;> simp at e2
theorem nm_ne {w q r : List Nat} {c : Nat} (h : Nm w) (hc : ¬ ltr c) : w ++ q ≠ c :: r := fun e => by
  obtain ⟨d, h1, h2⟩ := nm_head (q := q) h
  rw [e] at h1
  cases h1
  exact hc h2
theorem l64 : ¬ ltr 64 ∧ ¬ ltr 48 := by unfold ltr; omega
theorem row_inj {t t' : Mt} (h : IsRow t) (h' : IsRow t') (e : t.txt = t'.txt) : t = t' := by
  obtain ⟨w, b, rfl, hw, e1⟩ := row_txt h
  obtain ⟨w', b', rfl, hw', e1'⟩ := row_txt h'
  rw [e1, e1'] at e
  have en : ∀ b : Bool, End1 (if b = true then [39] else []) := fun b => by
    cases b
    · exact End1.nil
    · exact End1.cons no_sgn.2.2.2.2.1
  obtain ⟨rfl, e2⟩ := span hw.nm.sg hw'.nm.sg (en _) (en _) e
  have : b = b' := by cases b <;> cases b' <;> simp at e2 ⊢
  rw [this]
theorem txt_inj {t t' : Mt} (h : Gd t) (h' : Gd t') (e : t.txt = t'.txt) : t = t' := by
  have hd : ∀ {u : Mt} {c : Nat} {r : List Nat}, (∃ w q : List Nat, Nm w ∧ u.txt = w ++ q ∧ True) → ¬ ltr c → u.txt ≠ c :: r := fun ⟨w, q, hw, e, _⟩ hc e2 => nm_ne hw hc (e ▸ e2)
  have rw_ : ∀ {u : Mt}, IsRow u → ∃ w q : List Nat, Nm w ∧ u.txt = w ++ q ∧ True := fun h => let ⟨w, q, a, b, _⟩ := row_shape h; ⟨w, q, a, b, trivial⟩
  have vl_ : ∀ {n : Nat} {u : Mt}, IsVal n u → ∃ w q : List Nat, Nm w ∧ u.txt = w ++ q ∧ True := fun h => let ⟨w, q, a, b, _⟩ := val_shape h; ⟨w, q, a, b, trivial⟩
  have rl_ : ∀ {w0 : List Nat} {ts : List Mt}, NameOk (S w0) → ∃ w q : List Nat, Nm w ∧ (Mt.mk .rule w0 ts false).txt = w ++ q ∧ True := fun {w0 ts} h => let ⟨w, q, a, b, _⟩ := rule_shape (ts := ts) h; ⟨w, q, a, b, trivial⟩
  cases h with
  | row h =>
    cases h' with
    | row h' => exact row_inj h h' e
    | place h' => exact absurd (e.trans place_txt) (hd (rw_ h) l64.1)
    | zero => exact absurd (e.trans zero_txt) (hd (rw_ h) l64.2)
    | val h' => exact absurd e (row_val h h')
    | rule h' _ _ => exact absurd e (row_rule h h')
  | place h =>
    cases h' with
    | row h' => exact absurd (e.symm.trans place_txt) (hd (rw_ h') l64.1)
    | place h' =>
      rw [place_txt, place_txt] at e
      rw [row_inj h h' (List.cons.inj e).2]
    | zero => rw [place_txt, zero_txt] at e; simp at e
    | val h' => exact absurd (e.symm.trans place_txt) (hd (vl_ h') l64.1)
    | rule h' _ _ => exact absurd (e.symm.trans place_txt) (hd (rl_ h') l64.1)
  | zero =>
    cases h' with
    | row h' => exact absurd (e.symm.trans zero_txt) (hd (rw_ h') l64.2)
    | place h' => rw [place_txt, zero_txt] at e; simp at e
    | zero => rfl
    | val h' => exact absurd (e.symm.trans zero_txt) (hd (vl_ h') l64.2)
    | rule h' _ _ => exact absurd (e.symm.trans zero_txt) (hd (rl_ h') l64.2)
  | val h =>
    cases h' with
    | row h' => exact absurd e.symm (row_val h' h)
    | place h' => exact absurd (e.trans place_txt) (hd (vl_ h) l64.1)
    | zero => exact absurd (e.trans zero_txt) (hd (vl_ h) l64.2)
    | val h' => exact (val_inj h h' (.inl rfl) (.inl rfl) (by rw [e])).1
    | rule h' _ _ => exact absurd e (val_rule h h')
  | @rule n w ts h h1 hs =>
    cases h' with
    | row h' => exact absurd e.symm (row_rule h' h)
    | place h' => exact absurd (e.trans place_txt) (hd (rl_ h) l64.1)
    | zero => exact absurd (e.trans zero_txt) (hd (rl_ h) l64.2)
    | val h' => exact absurd e.symm (val_rule h' h)
    | @rule n' w' ts' h' h1' hs' =>
      rw [rule_txt, rule_txt] at e
      have e1 : w ++ (91 :: (TL.joinL [44, 32] (ts.map Mt.txt) ++ (93 :: []))) = w' ++ (91 :: (TL.joinL [44, 32] (ts'.map Mt.txt) ++ (93 :: []))) := by simpa using e
      obtain ⟨rfl, e2⟩ := span h.nm.sg h'.nm.sg (End1.cons no_sgn.2.2.2.2.2.2.1) (End1.cons no_sgn.2.2.2.2.2.2.1) e1
      obtain ⟨rfl, _⟩ := join_inj (.inr rfl) (fun t ht => val_inj (hs t ht)) hs' h1 h1' (List.cons.inj e2).2
      rfl
/-! ### subterms, each once -/
theorem Mt.ind {P : Mt → Prop} (h : ∀ so w ts b, (∀ t ∈ ts, P t) → P (.mk so w ts b)) (t : Mt) : P t := by
  have gen : ∀ (n : Nat) (t : Mt), t.dep ≤ n → P t := fun n => by
    induction n with
    | zero =>
      intro t ht
      cases t with
      | mk so w ts b => rw [Mt.dep_mk] at ht; omega
    | succ n ih =>
      intro t ht
      cases t with
      | mk so w ts b => exact h so w ts b fun u hu => ih u (by have := Mt.dep_part (so := so) (w := w) (b := b) hu; omega)
  exact gen t.dep t (Nat.le_refl _)
def sub : Mt → List Mt
  | .mk so w ts b => (ts.map sub).flatten ++ [.mk so w ts b]
theorem sub_mk (so : So) (w : List Nat) (ts : List Mt) (b : Bool) : sub (.mk so w ts b) = (ts.map sub).flatten ++ [.mk so w ts b] := by rw [sub]
theorem sub_mem {so : So} {w : List Nat} {ts : List Mt} {b : Bool} {s : Mt} : s ∈ sub (.mk so w ts b) ↔ (∃ t ∈ ts, s ∈ sub t) ∨ s = .mk so w ts b := by
  rw [sub_mk, List.mem_append, List.mem_singleton, List.mem_flatten]
  constructor
  · rintro (⟨l, hl, hs⟩ | h)
    · obtain ⟨t, ht, rfl⟩ := List.mem_map.mp hl
      exact .inl ⟨t, ht, hs⟩
    · exact .inr h
  · rintro (⟨t, ht, hs⟩ | h)
    · exact .inl ⟨sub t, List.mem_map_of_mem ht, hs⟩
    · exact .inr h
theorem sub_self (t : Mt) : t ∈ sub t := by
  cases t with
  | mk so w ts b => exact sub_mem.mpr (.inr rfl)
theorem sub_gd (t : Mt) : Gd t → ∀ s ∈ sub t, Gd s := by
  induction t using Mt.ind with
  | h so w ts b ih =>
    intro h s hs
    rcases sub_mem.mp hs with ⟨t, ht, hs⟩ | rfl
    · exact ih t ht (h.part rfl t ht) s hs
    · exact h
theorem sub_trans (t : Mt) : ∀ s ∈ sub t, ∀ u ∈ sub s, u ∈ sub t := by
  induction t using Mt.ind with
  | h so w ts b ih =>
    intro s hs u hu
    rcases sub_mem.mp hs with ⟨t, ht, hs⟩ | rfl
    · exact sub_mem.mpr (.inl ⟨t, ht, ih t ht s hs u hu⟩)
    · exact hu
theorem sub_dep (t : Mt) : ∀ s ∈ sub t, s.dep ≤ t.dep := by
  induction t using Mt.ind with
  | h so w ts b ih =>
    intro s hs
    rcases sub_mem.mp hs with ⟨t, ht, hs⟩ | rfl
    · have h1 := ih t ht s hs
      have h2 := Mt.dep_part (so := so) (w := w) (b := b) ht
      omega
    · exact Nat.le_refl _
def addO (acc : List Mt) (m : Mt) : List Mt := if m.txt ∈ acc.map Mt.txt then acc else acc ++ [m]
def fo (l acc : List Mt) : List Mt := l.foldl addO acc
theorem fo_app (l1 l2 acc : List Mt) : fo (l1 ++ l2) acc = fo l2 (fo l1 acc) := List.foldl_append
def AllG (l : List Mt) : Prop := ∀ x ∈ l, Gd x
theorem in_txt {acc : List Mt} {m : Mt} (h : AllG acc) (hm : Gd m) : m.txt ∈ acc.map Mt.txt ↔ m ∈ acc := by
  constructor
  · intro e
    obtain ⟨x, hx, ex⟩ := List.mem_map.mp e
    rw [← txt_inj (h x hx) hm ex]
    exact hx
  · exact fun e => List.mem_map_of_mem e
theorem addO_in {acc : List Mt} {m : Mt} (h : m.txt ∈ acc.map Mt.txt) : addO acc m = acc := if_pos h
theorem addO_out {acc : List Mt} {m : Mt} (h : ¬ m.txt ∈ acc.map Mt.txt) : addO acc m = acc ++ [m] := if_neg h
theorem mem_addO {acc : List Mt} {m x : Mt} (h : AllG acc) (hm : Gd m) : x ∈ addO acc m ↔ x ∈ acc ∨ x = m := by
  by_cases c : m.txt ∈ acc.map Mt.txt
  · rw [addO_in c]
    exact ⟨.inl, fun e => e.elim id fun e => e ▸ (in_txt h hm).mp c⟩
  · rw [addO_out c, List.mem_append, List.mem_singleton]
theorem AllG.addO {acc : List Mt} {m : Mt} (h : AllG acc) (hm : Gd m) : AllG (addO acc m) := fun x hx => ((mem_addO h hm).mp hx).elim (h x) fun e => e ▸ hm
theorem AllG.fo : ∀ {l acc : List Mt}, AllG acc → AllG l → AllG (fo l acc)
  | [], _, h, _ => h
  | m :: l, acc, h, hl => AllG.fo (l := l) (h.addO (hl m List.mem_cons_self)) fun x hx => hl x (List.mem_cons_of_mem _ hx)
theorem mem_fo : ∀ {l acc : List Mt} {x : Mt}, AllG acc → AllG l → (x ∈ Bs.fo l acc ↔ x ∈ acc ∨ x ∈ l)
  | [], _, _, _, _ => ⟨.inl, fun e => e.elim id fun z => by cases z⟩
  | m :: l, acc, x, h, hl => by
    have hm := hl m List.mem_cons_self
    have z := mem_fo (l := l) (acc := Bs.addO acc m) (x := x) (h.addO hm) fun x hx => hl x (List.mem_cons_of_mem _ hx)
    rw [show Bs.fo (m :: l) acc = Bs.fo l (Bs.addO acc m) from rfl, z, mem_addO h hm, List.mem_cons]
    exact or_assoc
theorem fo_same : ∀ {l acc : List Mt}, AllG acc → AllG l → (∀ x ∈ l, x ∈ acc) → Bs.fo l acc = acc
  | [], _, _, _, _ => rfl
  | m :: l, acc, h, hl, hs => by
    have hm := hl m List.mem_cons_self
    rw [show Bs.fo (m :: l) acc = Bs.fo l (Bs.addO acc m) from rfl, addO_in ((in_txt h hm).mpr (hs m List.mem_cons_self))]
    exact fo_same h (fun x hx => hl x (List.mem_cons_of_mem _ hx)) fun x hx => hs x (List.mem_cons_of_mem _ hx)
theorem fo_len : ∀ {l acc : List Mt}, (Bs.fo l acc).length ≤ acc.length + l.length
  | [], _ => Nat.le_refl _
  | m :: l, acc => by
    have z := fo_len (l := l) (acc := Bs.addO acc m)
    have y : (Bs.addO acc m).length ≤ acc.length + 1 := by
      unfold Bs.addO
      split
      · exact Nat.le_succ _
      · rw [List.length_append]; exact Nat.le_refl _
    rw [show Bs.fo (m :: l) acc = Bs.fo l (Bs.addO acc m) from rfl, List.length_cons]
    omega
def Clo (acc : List Mt) : Prop := ∀ m ∈ acc, ∀ s ∈ sub m, s ∈ acc
theorem Clo.fo {acc : List Mt} {m : Mt} (h : AllG acc) (c : Clo acc) (hm : Gd m) : Clo (Bs.fo (sub m) acc) := fun x hx s hs => by
  have hg := sub_gd m hm
  rcases (mem_fo h hg).mp hx with q | q
  · exact (mem_fo h hg).mpr (.inl (c x q s hs))
  · exact (mem_fo h hg).mpr (.inr (sub_trans m x q s hs))
theorem fo_skip {acc : List Mt} {m : Mt} (h : AllG acc) (c : Clo acc) (hm : Gd m) (e : m.txt ∈ acc.map Mt.txt) : Bs.fo (sub m) acc = acc :=
  fo_same h (sub_gd m hm) fun x hx => c m ((in_txt h hm).mp e) x hx
/-- behind the parts the whole is new, if it was not there -/
theorem fo_new {so : So} {w : List Nat} {ts : List Mt} {b : Bool} {acc : List Mt} (h : AllG acc) (hm : Gd (.mk so w ts b)) (e : ¬ (Mt.mk so w ts b).txt ∈ acc.map Mt.txt) :
    ¬ (Mt.mk so w ts b).txt ∈ (Bs.fo (ts.map sub).flatten acc).map Mt.txt ∧ Bs.fo (sub (.mk so w ts b)) acc = Bs.fo (ts.map sub).flatten acc ++ [.mk so w ts b] := by
  have hg : AllG (ts.map sub).flatten := fun x hx => sub_gd _ hm x (by rw [sub_mk]; exact List.mem_append_left _ hx)
  have n : ¬ (Mt.mk so w ts b).txt ∈ (Bs.fo (ts.map sub).flatten acc).map Mt.txt := fun z => by
    rcases (mem_fo h hg).mp ((in_txt (h.fo hg) hm).mp z) with q | q
    · exact e ((in_txt h hm).mpr q)
    · obtain ⟨l, hl, hx⟩ := List.mem_flatten.mp q
      obtain ⟨t, ht, rfl⟩ := List.mem_map.mp hl
      have h1 := sub_dep t _ hx
      have h2 := Mt.dep_part (so := so) (w := w) (b := b) ht
      omega
  refine ⟨n, ?_⟩
  rw [sub_mk, fo_app]
  exact addO_out n
theorem sub_len : ∀ {n : Nat} {t : Mt}, Wt n t → 2 * (sub t).length + 1 ≤ 3 ^ n := fun {n t} h => by
  induction h with
  | @mk n so w ts b h hs ih =>
    rw [sub_mk, List.length_append, List.length_singleton, List.length_flatten, List.map_map]
    have t3 := h.sh.t3
    have s3 : ∀ l : List Mt, (∀ t ∈ l, 2 * (sub t).length + 1 ≤ 3 ^ n) → 2 * (l.map (List.length ∘ sub)).sum + l.length ≤ l.length * 3 ^ n := fun l => by
      induction l with
      | nil => intro _; simp
      | cons x r ihr =>
        intro hx
        have h1 := hx x List.mem_cons_self
        have h2 := ihr fun t ht => hx t (List.mem_cons_of_mem _ ht)
        rw [List.map_cons, List.sum_cons, List.length_cons, Nat.add_mul]
        show 2 * ((sub x).length + _) + _ ≤ _
        omega
    have z := s3 ts ih
    have p : 1 ≤ 3 ^ n := Nat.one_le_pow n 3 (by decide)
    have m3 : ts.length * 3 ^ n ≤ 3 * 3 ^ n := Nat.mul_le_mul_right _ t3
    rw [Nat.pow_succ]
    have m4 : ts.length * 3 ^ n + (3 - ts.length) * 3 ^ n = 3 * 3 ^ n := by rw [← Nat.add_mul]; congr 1; omega
    have m5 : (3 - ts.length) ≤ (3 - ts.length) * 3 ^ n := Nat.le_mul_of_pos_right _ p
    omega
end Bs
namespace Bs
open PySem PySem.Spec PyProof.Rows L2 SX
/-- a statement that is never reached -/
def tNo : TS := fun _ _ _ => False
theorem ps_no {X : Cx} {st : Stmt} : PS X st tNo := ⟨fun _ _ _ _ _ _ h => h.elim⟩
def spName : Sp := fun vs H Q _ => ∃ (G : Hp) (w : List Nat), vs = [.str (S w)] ∧ NameOk (S w) ∧ Same G H ∧ ∀ H' : Hp, Step none G H G H' → Q (.bl true) H'
theorem lc_str {x : Str} {g : TG} {tt : TT} {te : TE} {vs : List Nat} {σ : L2.St} {H1 : Hp} {D : Addr} {Qd : Hp → Prop} (Pv : Nat → Hp → Prop) (h0 : Pv 0 (upd H1 D (.lst [])))
    (hs : ∀ i c H, x.cps[i]? = some c → Pv i H → g (.str ⟨#[c]⟩) (wipe σ vs) H fun σ2 H2 => wipe σ2 vs = wipe σ vs ∧ tt σ2 H2 fun b H3 =>
      if b = true then te σ2 H3 fun y H4 => ∃ acc, H4 D = some (.lst acc) ∧ acc.length < sizeLine ∧ Pv (i + 1) (upd H4 D (.lst (acc ++ [y]))) else Pv (i + 1) H3) (hd : ∀ H, Pv x.cps.size H → Qd H) :
    ∃ W : Nat → Nat → Hp → Prop, (∃ m, W 0 m (upd H1 D (.lst []))) ∧ ∀ i m H, W i m H →
      ((Its x).stop i H ∧ Qd H) ∨ ((Its x).go i H ∧ ∃ Nx : Hp → Prop, (∀ H', Nx H' → ∃ m', m' < m ∧ W (i + 1) m' H') ∧ ∀ y H', (Its x).yld i H y H' → g y (wipe σ vs) H' fun σ2 H2 => wipe σ2 vs = wipe σ vs ∧ tt σ2 H2 fun b H3 =>
        if b = true then te σ2 H3 fun y H4 => ∃ acc, H4 D = some (.lst acc) ∧ acc.length < sizeLine ∧ Nx (upd H4 D (.lst (acc ++ [y]))) else Nx H3) := by
  refine ⟨fun i m H => Pv i H ∧ i + m = x.cps.size, ⟨x.cps.size, h0, Nat.zero_add _⟩, fun i m H ⟨hp, em⟩ => ?_⟩
  cases m with
  | zero =>
    have e : i = x.cps.size := em
    subst e
    exact .inl ⟨Nat.le_refl _, hd H hp⟩
  | succ m =>
    refine .inr ⟨by show i < x.cps.size; omega, Pv (i + 1), fun H' h' => ⟨m, Nat.lt_succ_self m, h', by omega⟩, ?_⟩
    rintro y H' ⟨rfl, c, hc, rfl⟩
    exact hs i c H' hc hp
def CH : Str := "abcdefghijklmnopqrstuvwxyz0123456789_"
theorem CH_c : CH.cps.toList = List.range' 97 26 ++ (List.range' 48 10 ++ [95]) := by decide +kernel
theorem LT_c : ("abcdefghijklmnopqrstuvwxyz" : Str).cps.toList = List.range' 97 26 := by decide +kernel
theorem sgn_in {c : Nat} (h : sgn c) : c ∈ CH.cps.toList := by
  rw [CH_c, List.mem_append, List.mem_append, List.mem_range'_1, List.mem_range'_1, List.mem_singleton]
  unfold sgn ltr at h
  omega
theorem ltr_in {c : Nat} (h : ltr c) : c ∈ ("abcdefghijklmnopqrstuvwxyz" : Str).cps.toList := by
  rw [LT_c, List.mem_range'_1]
  unfold ltr at h
  omega
end Bs
namespace Pf
open PySem PySem.Spec PyProof.Rows L2 Bs SX
variable {P : Program} {w : World} {K : PySem.W.Frag} {mg : Str → Option Value} {base : Heap}
local macro_rules | `(tactic| walk_at "no") => `(tactic| refine ite2 (fun c => absurd c (by simp)) (fun _ => ?_))
abbrev N_is_name : List Str := ["word", "sign"]
theorem sc_is_name : FnScope N_is_name ["word"] (defScope s_is_name) := ⟨rfl, rfl, rfl, by decide +kernel, rfl, by decide +kernel, by decide +kernel⟩
theorem c_is_name (T : Tx K mg) : C8.Cal P w K mg base 1 "is_name" spName [] := by
  obtain ⟨fd, F⟩ := f_is_name T
  have pe_g_WORDS : ∀ {X : Cx} {pos : Pos}, X.mg = mg → Gl X "WORDS" → PE X (.Name "WORDS" pos) (tC (.ref (He.ga K "WORDS"))) := fun h1 h2 => C8.pe_gc h2 ⟨_, by rw [h1]; exact g_WORDS T, rfl⟩
  have pe_g_MOST_CHARACTERS : ∀ {X : Cx} {pos : Pos}, X.mg = mg → Gl X "MOST_CHARACTERS" → PE X (.Name "MOST_CHARACTERS" pos) (tC (.int 8)) := fun h1 h2 => by
    obtain ⟨t, e⟩ := ci_MOST_CHARACTERS T
    exact pe_glob h2 (by rw [h1]; exact e) ⟨t, rfl⟩
  have pe_g_LETTERS : ∀ {X : Cx} {pos : Pos}, X.mg = mg → Gl X "LETTERS" → PE X (.Name "LETTERS" pos) (tC (.str "abcdefghijklmnopqrstuvwxyz")) := fun h1 h2 => by
    obtain ⟨t, e⟩ := cs_LETTERS T
    exact pe_glob h2 (by rw [h1]; exact e) ⟨t, rfl⟩
  have pe_g_CHARACTERS : ∀ {X : Cx} {pos : Pos}, X.mg = mg → Gl X "CHARACTERS" → PE X (.Name "CHARACTERS" pos) (tC (.str CH)) := fun h1 h2 => by
    obtain ⟨t, e⟩ := cs_CHARACTERS T
    exact pe_glob h2 (by rw [h1]; exact e) ⟨t, rfl⟩
  have pe_g_str : ∀ {X : Cx} {pos : Pos}, X.mg = mg → Gl X "str" → PE X (.Name "str" pos) (tC (.ty "str")) := fun h1 h2 => pe_bltn (u := .type "str") h2 (by rw [h1]; exact z_str T) (by first | exact PySem.Pv.boot_str | rfl) rfl
  refine mkCal F (g_is_name T) (F.bindsN fun _ _ _ _ _ _ us hl => match us, hl with | [_], _ => rfl) .nil sc_is_name (fun vs H Q E h => ?_) (fun cdv A outer s H vs Q E hr h => ?_)
  · obtain ⟨G, w, rfl, _⟩ := h
    rfl
  obtain ⟨G, w, rfl, hw, hG, q⟩ := h
  have sl : sizeLine = 16777216 := rfl
  have hn := hw.nm
  have hl8 := hn.len
  have hl1 := hn.pos
  have hlen : (S w).length = w.length := S_len w
  refine ⟨_, (pss_cons (ps_if (PW.pt (pw_or (pt_not (pt_val (pe_callB (call_isiK' (K := K) rfl) (by rfl) (z_isinstance T) boot_isinstance (pa_cons (pv 0) (pa_cons (pe_g_str rfl rfl) pa_nil))))) (pw_or1 (pt_cmpR (op_in_seqK (K := K) rfl) (pv 0) (pe_g_WORDS rfl rfl) (by rfl))))) (pss_one (ps_ret pe_bl)) pss_nil)
    (pss_cons (ps_if (PW.pt (pw_or (pt_cmpR op_eq (pe_callB call_len_str (by rfl) (z_len T) boot_len (pa_cons (pv 0) pa_nil)) pe_int (nomark _)) (pw_or1 (pt_cmpR op_gt (pe_callB call_len_str (by rfl) (z_len T) boot_len (pa_cons (pv 0) pa_nil)) (pe_g_MOST_CHARACTERS rfl rfl) (nomark _))))) (pss_one (ps_ret pe_bl)) pss_nil)
    (pss_one (ps_ret (pe_and (pe_cmpR op_in_sign (pe_ix ix_str (pv 0) pe_int (fun _ _ => rfl)) (pe_g_LETTERS rfl rfl) (by rfl)) (pe_one (pe_callB (cr_all rfl) (by rfl) (z_all T) boot_all (pa_cons (pe_lc (own := [("sign", 1)]) rfl sc_is_name.nd (pi_str (pv 0)) (blkOk_by (N := N_is_name) (sc := defScope s_is_name) (by decide +kernel)) (fun _ _ _ _ _ => (pg_name (i := 1) sc_is_name.nd rfl (Or.inl rfl))) (fun _ _ _ _ _ => pts_nil) (fun _ _ _ _ _ => (pe_cmpR op_in_sign (pv 1) (pe_g_CHARACTERS rfl rfl) (by rfl)))) pa_nil)))))))), ?_⟩
  have nw : S w ∉ W29 := hw.2
  have eW : wordsD.map (He.Dv.v K) = W29.map V.str := by rfl
  have hW : SqT K H (He.ga K "WORDS") (W29.map V.str) := by
    rw [← eW]
    exact He.tupB_ok (ex_5 T) H
  refine ⟨_, rfl, _, _, .type "str", .type "str", true, rfl, .ty "str", .base (.str _), kit_ty (by decide +kernel), _, rfl, ?_⟩
  refine iteF ?_
  refine ⟨_, rfl, _, W29.map V.str, rfl, .inr hW, rfl, by decide +kernel, _, rfl, ?_⟩
  refine ite2 (fun c => absurd c (by
    show ¬ inV (.str (S w)) (W29.map V.str) = true
    rw [inV_str, decide_eq_true_eq]
    exact nw)) (fun _ => ?_)
  refine ⟨_, rfl, S w, rfl, by rw [hlen]; omega, rfl, _, rfl, ?_⟩
  refine ite2 (fun c => absurd (V.int.inj (of_decide_eq_true c)) (by rw [hlen]; omega)) (fun _ => ?_)
  refine ⟨_, rfl, S w, rfl, by rw [hlen]; omega, _, _, rfl, rfl, _, rfl, ?_⟩
  refine ite2 (fun c => absurd (of_decide_eq_true c) (by rw [hlen]; omega)) (fun _ => ?_)
  obtain ⟨c0, hc0⟩ : ∃ c0, w.head? = some c0 := by
    cases w with
    | nil => simp at hl1
    | cons c r => exact ⟨c, rfl⟩
  have h0 : w[0]? = some c0 := by rw [← List.head?_eq_getElem?]; exact hc0
  have hlt := hn.hd c0 hc0
  refine ⟨_, rfl, S w, 0, c0, rfl, rfl, by rw [hlen]; omega, atI_nat (j := 0) h0, c0, _, rfl, rfl, ?_⟩
  refine ⟨_, rfl, ?_⟩
  have e0 : decide (c0 ∈ ("abcdefghijklmnopqrstuvwxyz" : Str).cps.toList) = true := decide_eq_true (ltr_in hlt)
  refine ite2 (fun _ => ?_) (fun c => absurd e0 c)
  refine ⟨_, rfl, S w, rfl, fun D hD => ?_⟩
  have gD := hG.free hD
  have e8 : (S w).cps.size = w.length := hlen
  refine lc_str (x := S w) (fun i H' => Step none G H G H' ∧ H' D = some (.lst ((List.replicate i true).map V.bl))) ⟨(Step.refl hG).loc hD gD, upd_same⟩ ?_ ?_
  · rintro i c H' hc ⟨st, hL⟩
    have hc2 : w[i]? = some c := by rw [← hc]; simp [S]
    have hm := List.mem_of_getElem? hc2
    have hil := (List.getElem?_eq_some_iff.mp hc2).1
    refine ⟨rfl, ?_⟩
    unfold tYes
    refine iteT ⟨_, rfl, c, _, rfl, rfl, _, hL, ?_, st.loc hD gD, ?_⟩
    · rw [List.length_map, List.length_replicate]
      omega
    · rw [upd_same]
      have e1 : decide (c ∈ CH.cps.toList) = true := decide_eq_true (sgn_in (hn.sg c hm))
      rw [e1, rep_app]
  rintro H' ⟨st, hL⟩
  refine ⟨D, _, rfl, SqL.of hL, ?_⟩
  rw [all_rep]
  exact q H' st
end Pf
namespace Bs
open PySem PySem.Spec PyProof.Rows L2 SX
/-! ### a text parted at its commas that stand in no bracket -/
def cut (L : List Nat) (i j : Nat) : List Nat := (L.drop i).take (j - i)
structure Sc where
  ps : List (List Nat)
  s : Nat
  d : Int
def scStep (L : List Nat) (x : Sc) (i : Nat) : Sc :=
  if L[i]? = some 40 then { x with d := x.d + 1 } else if L[i]? = some 41 then { x with d := x.d - 1 } else
    if x.d = 0 ∧ cut L i (i + 2) = [44, 32] then { x with ps := x.ps ++ [cut L x.s i], s := i + 2 } else x
def scGo (L : List Nat) (i n : Nat) (x : Sc) : Sc := (List.range' i n).foldl (scStep L) x
theorem scGo_add (L : List Nat) (i n m : Nat) (x : Sc) : scGo L i (n + m) x = scGo L (i + n) m (scGo L i n x) := by
  unfold scGo
  rw [show List.range' i (n + m) = List.range' i n ++ List.range' (i + n) m by rw [List.range'_append_1], List.foldl_append]
theorem scGo_one (L : List Nat) (i : Nat) (x : Sc) : scGo L i 1 x = scStep L x i := rfl
theorem scGo_succ (L : List Nat) (n : Nat) (x : Sc) : scGo L 0 (n + 1) x = scStep L (scGo L 0 n x) n := by
  rw [scGo_add, Nat.zero_add]
  rfl
theorem at_drop {L B : List Nat} {i c : Nat} (h : L.drop i = c :: B) : L[i]? = some c ∧ L.drop (i + 1) = B := by
  refine ⟨?_, ?_⟩
  · have := List.getElem?_drop (xs := L) (i := i) (j := 0)
    rw [h] at this
    simpa using this.symm
  · rw [← List.drop_drop, h]
    rfl
theorem drop_app {L A B : List Nat} {i : Nat} (h : L.drop i = A ++ B) : L.drop (i + A.length) = B := by
  rw [← List.drop_drop, h, List.drop_left]
theorem cut_head {L B : List Nat} {i c : Nat} (h : L.drop i = c :: B) : cut L i (i + 2) = c :: B.take 1 := by
  unfold cut
  rw [h, show i + 2 - i = 2 by omega]
  rfl
theorem sc_plain {L : List Nat} : ∀ {w B : List Nat} {i : Nat} {x : Sc}, (∀ c ∈ w, c ≠ 40 ∧ c ≠ 41 ∧ c ≠ 44) → L.drop i = w ++ B → scGo L i w.length x = x
  | [], _, _, _, _, _ => rfl
  | c :: w, B, i, x, hw, h => by
    have h' : L.drop i = c :: (w ++ B) := h
    obtain ⟨e1, e2⟩ := at_drop h'
    obtain ⟨c1, c2, c3⟩ := hw c List.mem_cons_self
    rw [List.length_cons, Nat.add_comm, scGo_add, scGo_one]
    have e3 : scStep L x i = x := by
      unfold scStep
      rw [e1, if_neg (fun z => c1 (Option.some.inj z)), if_neg (fun z => c2 (Option.some.inj z)), if_neg (fun z => by
        rw [cut_head h'] at z
        exact c3 (List.cons.inj z.2).1)]
    rw [e3]
    exact sc_plain (fun d hd => hw d (List.mem_cons_of_mem _ hd)) e2
theorem sgn_plain {c : Nat} (h : sgn c) : c ≠ 40 ∧ c ≠ 41 ∧ c ≠ 44 := by
  unfold sgn ltr at h
  omega
/-- such a text changes nothing -/
def ScV (t : Mt) : Prop := ∀ {L B : List Nat} {i : Nat} {x : Sc}, 0 ≤ x.d → L.drop i = t.txt ++ B → scGo L i t.txt.length x = x
theorem sc_join : ∀ {ts : List Mt}, (∀ t ∈ ts, ScV t) → ∀ {L B : List Nat} {i : Nat} {x : Sc}, 0 < x.d → L.drop i = TL.joinL [44, 32] (ts.map Mt.txt) ++ B → scGo L i (TL.joinL [44, 32] (ts.map Mt.txt)).length x = x
  | [], _, _, _, _, _, _, _ => rfl
  | [t], h, L, B, i, x, hd, e => h t List.mem_cons_self (by omega) e
  | t :: u :: r, h, L, B, i, x, hd, e => by
    have ej : TL.joinL [44, 32] ((t :: u :: r).map Mt.txt) = t.txt ++ ([44, 32] ++ TL.joinL [44, 32] ((u :: r).map Mt.txt)) := by simp [TL.joinL]
    rw [ej] at e ⊢
    rw [List.append_assoc] at e
    rw [List.length_append, scGo_add, h t List.mem_cons_self (by omega) e]
    have e1 := drop_app e
    rw [List.length_append, scGo_add]
    have e2 : L.drop (i + t.txt.length) = 44 :: (32 :: (TL.joinL [44, 32] ((u :: r).map Mt.txt) ++ B)) := by rw [e1]; simp
    obtain ⟨g1, g2⟩ := at_drop e2
    obtain ⟨g3, g4⟩ := at_drop g2
    have s1 : scStep L x (i + t.txt.length) = x := by
      unfold scStep
      rw [g1, if_neg (by simp), if_neg (by simp), if_neg (fun z => by omega)]
    have s2 : scStep L x (i + t.txt.length + 1) = x := by
      unfold scStep
      rw [g3, if_neg (by simp), if_neg (by simp), if_neg (fun z => by omega)]
    have s3 : scGo L (i + t.txt.length) [44, 32].length x = x := by
      show scGo L _ (1 + 1) x = x
      rw [scGo_add, scGo_one, scGo_one, s1, s2]
    rw [s3]
    exact sc_join (fun t ht => h t (List.mem_cons_of_mem _ ht)) hd (by show L.drop (i + t.txt.length + 2) = _; exact g4)
theorem sc_val : ∀ {n : Nat} {t : Mt}, IsVal n t → ScV t := fun {n t} h => by
  induction h with
  | @col n w r h hr =>
    intro L B i x hd e
    obtain ⟨w0, b0, rfl, hw0, er⟩ := row_txt hr
    refine sc_plain (B := B) (fun c hc => ?_) e
    rw [col_txt, er] at hc
    have h1 := fun c hc => sgn_plain (h.nm.sg c hc)
    have h0 := fun c hc => sgn_plain (hw0.nm.sg c hc)
    rcases List.mem_append.mp hc with hc | hc
    · rcases List.mem_append.mp hc with hc | hc
      · rcases List.mem_append.mp hc with hc | hc
        · exact h0 c hc
        · cases b0
          · cases hc
          · rw [List.mem_singleton.mp hc]; omega
      · rw [List.mem_singleton.mp hc]; omega
    · exact h1 c hc
  | @fn n w ts h h1 h3 hs ih =>
    intro L B i x hd e
    have ef : (Mt.mk .func w ts false).txt = w ++ ([40] ++ (TL.joinL [44, 32] (ts.map Mt.txt) ++ [41])) := by rw [fn_txt]; simp
    rw [ef] at e ⊢
    rw [List.append_assoc] at e
    rw [List.length_append, scGo_add, sc_plain (fun c hc => sgn_plain (h.nm.sg c hc)) e]
    have e1 := drop_app e
    have e2 : L.drop (i + w.length) = 40 :: (TL.joinL [44, 32] (ts.map Mt.txt) ++ ([41] ++ B)) := by rw [e1]; simp
    obtain ⟨g1, g2⟩ := at_drop e2
    rw [List.length_append, scGo_add]
    have s1 : scGo L (i + w.length) [40].length x = { x with d := x.d + 1 } := by
      show scGo L _ 1 x = _
      rw [scGo_one]
      unfold scStep
      rw [g1, if_pos rfl]
    rw [s1, List.length_append, scGo_add]
    have g2' : L.drop (i + w.length + [40].length) = TL.joinL [44, 32] (ts.map Mt.txt) ++ ([41] ++ B) := g2
    rw [sc_join (fun t ht => ih t ht) (x := { x with d := x.d + 1 }) (by show 0 < x.d + 1; omega) g2']
    have e3 := drop_app g2'
    obtain ⟨g3, _⟩ := at_drop (show L.drop _ = 41 :: B from e3)
    show scGo L _ 1 _ = _
    rw [scGo_one]
    unfold scStep
    rw [g3, if_neg (by simp), if_pos rfl]
    show Sc.mk x.ps x.s (x.d + 1 - 1) = x
    rw [Int.add_sub_cancel]
theorem cut_of {L A B : List Nat} {i : Nat} (h : L.drop i = A ++ B) : cut L i (i + A.length) = A := by
  unfold cut
  rw [h, Nat.add_sub_cancel_left, List.take_left]
/-- all pieces but the last; where the last begins -/
theorem sc_top : ∀ {ts : List Mt} {n : Nat}, (∀ t ∈ ts, IsVal n t) → 1 ≤ ts.length → ∀ {L : List Nat} {i : Nat} {ps : List (List Nat)}, L.drop i = TL.joinL [44, 32] (ts.map Mt.txt) →
    ∃ k : Nat, scGo L i (TL.joinL [44, 32] (ts.map Mt.txt)).length ⟨ps, i, 0⟩ = ⟨ps ++ (ts.map Mt.txt).dropLast, k, 0⟩ ∧ k ≤ L.length ∧ ps ++ (ts.map Mt.txt).dropLast ++ [L.drop k] = ps ++ ts.map Mt.txt
  | [], _, _, h, _, _, _, _ => absurd h (by simp)
  | [t], n, h, _, L, i, ps, e => by
    refine ⟨i, ?_, ?_, ?_⟩
    · have z := sc_val (h t List.mem_cons_self) (L := L) (B := []) (i := i) (x := ⟨ps, i, 0⟩) (Int.le_refl 0) (by rw [List.append_nil]; exact e)
      show scGo L i t.txt.length _ = _
      rw [z]
      simp
    · by_cases c : i ≤ L.length
      · exact c
      · have := List.drop_eq_nil_of_le (as := L) (i := i) (by omega)
        have z : t.txt = [] := by rw [show t.txt = TL.joinL [44, 32] ([t].map Mt.txt) from rfl, ← e]; exact this
        obtain ⟨w, q, hw, e1, _⟩ : ∃ w q : List Nat, Nm w ∧ t.txt = w ++ q ∧ True := by
          cases h t List.mem_cons_self with
          | col h hr =>
            obtain ⟨w0, b0, rfl, hw0, er⟩ := row_txt hr
            exact ⟨w0, _, hw0.nm, by rw [col_txt, er, List.append_assoc, List.append_assoc], trivial⟩
          | fn hh h1 h3 hs => exact ⟨_, _, hh.nm, by rw [fn_txt, List.append_assoc, List.append_assoc], trivial⟩
        have p := hw.pos
        rw [z] at e1
        have := congrArg List.length e1
        rw [List.length_append] at this
        simp at this
        omega
    · rw [e]
      simp [TL.joinL]
  | t :: u :: r, n, h, _, L, i, ps, e => by
    have ej : TL.joinL [44, 32] ((t :: u :: r).map Mt.txt) = t.txt ++ ([44, 32] ++ TL.joinL [44, 32] ((u :: r).map Mt.txt)) := by simp [TL.joinL]
    rw [ej] at e ⊢
    have e1 := drop_app e
    have e2 : L.drop (i + t.txt.length) = 44 :: (32 :: TL.joinL [44, 32] ((u :: r).map Mt.txt)) := by rw [e1]; simp
    obtain ⟨g1, g2⟩ := at_drop e2
    obtain ⟨g3, g4⟩ := at_drop g2
    have s0 := sc_val (h t List.mem_cons_self) (L := L) (i := i) (x := ⟨ps, i, 0⟩) (Int.le_refl 0) e
    have s1 : scStep L ⟨ps, i, 0⟩ (i + t.txt.length) = ⟨ps ++ [t.txt], i + t.txt.length + 2, 0⟩ := by
      unfold scStep
      rw [g1, if_neg (by simp), if_neg (by simp), if_pos ⟨rfl, by rw [cut_head e2]; rfl⟩, cut_of e]
    have s2 : scStep L ⟨ps ++ [t.txt], i + t.txt.length + 2, 0⟩ (i + t.txt.length + 1) = ⟨ps ++ [t.txt], i + t.txt.length + 2, 0⟩ := by
      unfold scStep
      rw [g3, if_neg (by simp), if_neg (by simp), if_neg (fun z => by
        have z2 := z.2
        rw [cut_head g2] at z2
        have := (List.cons.inj z2).1
        omega)]
    obtain ⟨k, q1, q2, q3⟩ := sc_top (ts := u :: r) (n := n) (fun t ht => h t (List.mem_cons_of_mem _ ht)) (by simp) (L := L) (i := i + t.txt.length + 2) (ps := ps ++ [t.txt]) g4
    refine ⟨k, ?_, q2, ?_⟩
    · rw [List.length_append, scGo_add, s0, List.length_append, scGo_add]
      have s3 : scGo L (i + t.txt.length) [44, 32].length ⟨ps, i, 0⟩ = ⟨ps ++ [t.txt], i + t.txt.length + 2, 0⟩ := by
        show scGo L _ (1 + 1) _ = _
        rw [scGo_add, scGo_one, scGo_one, s1, s2]
      rw [s3]
      show scGo L (i + t.txt.length + 2) _ _ = _
      rw [q1]
      simp [List.dropLast]
    · have z : (ps ++ ((t :: u :: r).map Mt.txt).dropLast) = ps ++ [t.txt] ++ ((u :: r).map Mt.txt).dropLast := by simp [List.dropLast]
      rw [z, q3]
      simp
end Bs
namespace Bs
open PySem PySem.Spec PyProof.Rows L2 SX
theorem S_tl' (a : List Nat) : (S a).cps.toList = a := rfl
theorem one_S (c : Nat) : (⟨#[c]⟩ : Str) = S [c] := rfl
theorem ew_S (a : List Nat) (c : Nat) (h : a ≠ []) : Txt.endswith (S a) (S [c]) = decide (a[a.length - 1]? = some c) := by
  have hl : 0 < a.length := List.length_pos_iff.mpr h
  have z := PySem.StrLaws.subAt_one (S a) c ((S a).length - 1)
  rw [S_tl', S_len] at z
  unfold Txt.endswith
  rw [S_len, S_len]
  rw [one_S, S_len] at z
  have e1 : ([c] : List Nat).length = 1 := rfl
  rw [e1] at z ⊢
  by_cases q : a[a.length - 1]? = some c
  · rw [decide_eq_true q]
    obtain ⟨z1, z2⟩ := z.mpr q
    rw [z2]
    simp
    omega
  · rw [decide_eq_false q]
    cases e : Builtin.Str.subAt (S a) (S [c]) (a.length - 1) with
    | false => simp
    | true => exact absurd (z.mp ⟨by omega, e⟩) q
theorem sw_S (a : List Nat) (c : Nat) : Txt.startswith (S a) (S [c]) = decide (a[0]? = some c) := by
  have z := PySem.StrLaws.subAt_one (S a) c 0
  rw [S_tl', S_len] at z
  unfold Txt.startswith
  rw [S_len, S_len]
  rw [one_S, S_len] at z
  have e1 : ([c] : List Nat).length = 1 := rfl
  rw [e1] at z ⊢
  by_cases q : a[0]? = some c
  · rw [decide_eq_true q]
    obtain ⟨z1, z2⟩ := z.mpr q
    rw [z2]
    simp
    omega
  · rw [decide_eq_false q]
    cases e : Builtin.Str.subAt (S a) (S [c]) 0 with
    | false => simp
    | true =>
      by_cases l : 0 + 1 ≤ a.length
      · exact absurd (z.mp ⟨l, e⟩) q
      · rw [decide_eq_false l]
        rfl
def spRR (C : Addr) : Sp := fun vs H Q _ => ∃ (G : Hp) (r : Mt), vs = [.str (S r.txt)] ∧ IsRow r ∧ Same G H ∧ ∀ (G' H' : Hp) (x : Addr), Step none G H G' H' → TAt C G' (.ref x) r → Q (.ref x) H'
end Bs
namespace Pf
open PySem PySem.Spec PyProof.Rows L2 Bs SX
variable {P : Program} {w : World} {K : PySem.W.Frag} {mg : Str → Option Value} {base : Heap}
abbrev N_read_row : List Str := ["text", "marked", "name"]
theorem sc_read_row : FnScope N_read_row ["text"] (defScope s_read_row) := ⟨rfl, rfl, rfl, by decide +kernel, rfl, by decide +kernel, by decide +kernel⟩
theorem c_read_row (T : Tx K mg) : C8.Cal P w K mg base 7 "_read_row" (spRR (CT K)) [] := by
  obtain ⟨fd, F⟩ := f_read_row T
  have c_is_name := c_is_name (P := P) (w := w) (base := base) T
  have c_row_term := c_row_term (P := P) (w := w) (base := base) T
  refine mkCal F (g_read_row T) (F.bindsN fun _ _ _ _ _ _ us hl => match us, hl with | [_], _ => rfl) .nil sc_read_row (fun vs H Q E h => ?_) (fun cdv A outer s H vs Q E hr h => ?_)
  · obtain ⟨G, r, rfl, _⟩ := h
    rfl
  obtain ⟨G, r, rfl, hr0, hG, q⟩ := h
  have sl : sizeLine = 16777216 := rfl
  obtain ⟨wn, b, rfl, hw, er⟩ := Bs.row_txt hr0
  have hn := hw.nm
  have l8 := hn.len
  have l1 := hn.pos
  have q39 : ("'" : Str) = S [39] := by decide +kernel
  refine ⟨_, (pss_cons (ps_set (i := 1) sc_read_row.nd rfl (Or.inl rfl) (pe_m1 PySem.F.slot_str_endswith PySem.F.type_str_endswith mt_endswith (pv 0) pe_str))
    (pss_cons (ps_set (i := 2) sc_read_row.nd rfl (Or.inl rfl) (pe_ifExp (pt_val (pv 1)) (pe_slice C8.sl_txt (pv 0) po_none (po_some (pe_un un_neg pe_int))) (pv 0)))
    (pss_one (ps_ret (pe_ifExp (pt_val (C8.pe_c c_is_name hr (by first | decide | omega) rfl (pa_cons (pv 2) pa_nil))) (C8.pe_c c_row_term hr (by first | decide | omega) rfl (pa_cons (pv 2) (pa_cons (pv 1) pa_nil))) pe_non))))), ?_⟩
  rw [er]
  refine ⟨_, rfl, ⟨_, rfl⟩, S _, "'", rfl, rfl, ?_⟩
  have ee : Txt.endswith (S (wn ++ (if b = true then [39] else []))) "'" = b := by
    rw [q39, ew_S _ _ (by cases wn with | nil => simp at l1 | cons c r => simp)]
    cases b with
    | true => exact decide_eq_true (by simp)
    | false =>
      refine decide_eq_false fun z => ?_
      have := List.mem_of_getElem? z
      simp at this
      have := hn.sg 39 this
      exact no_sgn.2.2.2.2.1 this
  rw [ee]
  refine ⟨_, rfl, b, rfl, ?_⟩
  cases b with
  | true =>
    refine iteT ⟨_, rfl, _, rfl, _, rfl, S _, rfl, by rw [S_len, List.length_append]; show wn.length + 1 ≤ sizeLine; omega, ?_⟩
    have ec : Txt.slice (S (wn ++ (if true = true then [39] else []))) none (some (-1)) = S wn := by
      rw [slice_butlast (by simp)]
      congr 1
      simp
    rw [show (some (-1 : Int)) = some (-1) from rfl] at ec
    rw [ec]
    exact ⟨_, rfl, G, wn, rfl, hw, hG, fun H1 s1 => ⟨true, rfl, iteT ⟨_, rfl, _, rfl, G, wn, true, rfl, s1.gh, l8, fun G2 H2 x s2 hx _ => q G2 H2 x (s1.trans s2) hx⟩⟩⟩
  | false =>
    refine iteF ⟨_, rfl, ?_⟩
    have ec : (wn ++ (if false = true then [39] else [])) = wn := by simp
    rw [ec]
    exact ⟨_, rfl, G, wn, rfl, hw, hG, fun H1 s1 => ⟨true, rfl, iteT ⟨_, rfl, _, rfl, G, wn, false, rfl, s1.gh, l8, fun G2 H2 x s2 hx _ => q G2 H2 x (s1.trans s2) hx⟩⟩⟩
end Pf
namespace Bs
open PySem PySem.Spec PyProof.Rows L2 SX
def spPieces : Sp := fun vs H Q _ => ∃ (G : Hp) (n : Nat) (ts : List Mt), vs = [.str (S (TL.joinL [44, 32] (ts.map Mt.txt)))] ∧ (∀ t ∈ ts, IsVal n t) ∧ 1 ≤ ts.length ∧ (TL.joinL [44, 32] (ts.map Mt.txt)).length ≤ 2000000 ∧ Same G H ∧
  ∀ (H' : Hp) (l : Addr), Step none G H G H' → G l = none → H' l = some (.lst (((ts.map Mt.txt).map S).map V.str)) → Q (.ref l) H'
theorem slice_nn (a : List Nat) (i j : Nat) : Txt.slice (S a) (some ((i : Nat) : Int)) (some ((j : Nat) : Int)) = S (cut a i j) := by
  rw [← C8.cutS_slice]
  unfold cutS
  rw [HT.sIx_nat, HT.sIx_nat, S_len, S_tl']
  show S ((a.drop (min i a.length)).take (min j a.length - min i a.length)) = S (cut a i j)
  unfold cut
  congr 1
  by_cases h : i ≤ a.length
  · rw [Nat.min_eq_left h]
    by_cases h2 : j ≤ a.length
    · rw [Nat.min_eq_left h2]
    · rw [Nat.min_eq_right (show a.length ≤ j by omega), List.take_of_length_le (by rw [List.length_drop]; omega), List.take_of_length_le (by rw [List.length_drop]; omega)]
  · rw [Nat.min_eq_right (show a.length ≤ i by omega), List.drop_eq_nil_of_le (Nat.le_refl _), List.drop_eq_nil_of_le (show a.length ≤ i by omega), List.take_nil, List.take_nil]
def x0 : Sc := ⟨[], 0, 0⟩
theorem sc_bound (L : List Nat) : ∀ n : Nat, (scGo L 0 n x0).ps.length ≤ n ∧ (scGo L 0 n x0).s ≤ n + 1 ∧ -(n : Int) ≤ (scGo L 0 n x0).d ∧ (scGo L 0 n x0).d ≤ n
  | 0 => ⟨Nat.le_refl _, Nat.zero_le _, by simp [scGo, x0], by simp [scGo, x0]⟩
  | n + 1 => by
    obtain ⟨h1, h2, h3, h4⟩ := sc_bound L n
    rw [scGo_succ]
    generalize scGo L 0 n x0 = x at *
    unfold scStep
    split
    · refine ⟨?_, ?_, ?_, ?_⟩ <;> (dsimp only; omega)
    · split
      · refine ⟨?_, ?_, ?_, ?_⟩ <;> (dsimp only; omega)
      · split
        · refine ⟨?_, ?_, ?_, ?_⟩ <;> (dsimp only; (try rw [List.length_append, List.length_singleton]); omega)
        · refine ⟨?_, ?_, ?_, ?_⟩ <;> omega
end Bs
namespace Pf
open PySem PySem.Spec PyProof.Rows L2 Bs SX
variable {P : Program} {w : World} {K : PySem.W.Frag} {mg : Str → Option Value} {base : Heap}
abbrev N_pieces : List Str := ["text", "pieces", "start", "still_open", "at"]
theorem sc_pieces : FnScope N_pieces ["text"] (defScope s_pieces) := ⟨rfl, rfl, rfl, by decide +kernel, rfl, by decide +kernel, by decide +kernel⟩
theorem c_pieces (T : Tx K mg) : C8.Cal P w K mg base 1 "_pieces" spPieces [] := by
  obtain ⟨fd, F⟩ := f_pieces T
  refine mkCal F (g_pieces T) (F.bindsN fun _ _ _ _ _ _ us hl => match us, hl with | [_], _ => rfl) .nil sc_pieces (fun vs H Q E h => ?_) (fun cdv A outer s H vs Q E hr h => ?_)
  · obtain ⟨G, n, ts, rfl, _⟩ := h
    rfl
  obtain ⟨G, n, ts, rfl, hts, h1, hlen, hG, q⟩ := h
  have sl : sizeLine = 16777216 := rfl
  obtain ⟨kk, hk1, hk2, hk3⟩ := sc_top hts h1 (L := TL.joinL [44, 32] (ts.map Mt.txt)) (i := 0) (ps := []) rfl
  generalize TL.joinL [44, 32] (ts.map Mt.txt) = L at *
  have hLl : (S L).length = L.length := S_len L
  refine ⟨_, (pss_cons (ps_set (i := 1) sc_pieces.nd rfl (Or.inl rfl) (pe_lst pa_nil))
    (pss_cons (ps_set (i := 2) sc_pieces.nd rfl (Or.inl rfl) pe_int)
    (pss_cons (ps_set (i := 3) sc_pieces.nd rfl (Or.inl rfl) pe_int)
    (pss_cons (ps_for PassesOwn.never rfl (pi_range1 (by rfl) (z_range T) (pa_cons (pe_callB call_len_str (by rfl) (z_len T) boot_len (pa_cons (pv 0) pa_nil)) pa_nil)) (pg_name (i := 4) sc_pieces.nd rfl (Or.inl rfl)) (pss_one (ps_if (pt_cmpR op_eq (pe_ix ix_str (pv 0) (pv 4) (fun _ _ => rfl)) pe_str (nomark _)) (pss_one (ps_aug (i := 3) sc_pieces.nd rfl (Or.inl rfl) pe_int ip_add)) (pss_one (ps_if (pt_cmpR op_eq (pe_ix ix_str (pv 0) (pv 4) (fun _ _ => rfl)) pe_str (nomark _)) (pss_one (ps_aug (i := 3) sc_pieces.nd rfl (Or.inl rfl) pe_int ip_sub)) (pss_one (ps_if (PW.pt (pw_and (pt_cmpR op_eq (pv 3) pe_int (nomark _)) (pw_and1 (pt_cmpR op_eq (pe_slice C8.sl_txt (pv 0) (po_some (pv 4)) (po_some (pe_op op_add (pv 4) pe_int))) pe_str (nomark _))))) (pss_cons (ps_expr (pe_bm PySem.F.plainAttrs_list PySem.F.slot_list_append PySem.F.type_list_append mt_append (pv 1) (pa_cons (pe_slice C8.sl_txt (pv 0) (po_some (pv 2)) (po_some (pv 4))) pa_nil)))
    (pss_one (ps_set (i := 2) sc_pieces.nd rfl (Or.inl rfl) (pe_op op_add (pv 4) pe_int)))) pss_nil)))))))
    (pss_cons (ps_expr (pe_bm PySem.F.plainAttrs_list PySem.F.slot_list_append PySem.F.type_list_append mt_append (pv 1) (pa_cons (pe_slice C8.sl_txt (pv 0) (po_some (pv 2)) po_none) pa_nil)))
    (pss_one (ps_ret (pv 1)))))))), ?_⟩
  refine ⟨by show 0 ≤ sizeLine; decide, fun l hl => ?_⟩
  have gl := hG.free hl
  have s0 := (Step.refl (p := none) hG).loc (o := .lst []) hl gl
  refine ⟨_, rfl, S L, rfl, by rw [hLl]; omega, _, rfl, by omega, by rw [hLl]; omega, ?_⟩
  rw [hLl]
  refine for_range (lo := 0) (n := ((L.length : Nat) : Int).toNat) (fun i σ H' => ∃ (s d : Int) (o4 : Option V), σ = [some (.str (S L)), some (.ref l), some (.int s), some (.int d), o4] ∧ s = ((scGo L 0 i x0).s : Nat) ∧ d = (scGo L 0 i x0).d ∧ Step none G H G H' ∧ H' l = some (.lst (((scGo L 0 i x0).ps.map S).map V.str)))
    ⟨0, 0, none, rfl, rfl, rfl, s0, upd_same⟩ ?_ ?_
  · rintro i σ H' hi ⟨s, d, o4, rfl, hs, hd, st, hL⟩
    have hi2 : i < L.length := by omega
    obtain ⟨b1, b2, b3, b4⟩ := sc_bound L i
    have hc := List.getElem?_eq_getElem hi2
    have hat : atI (S L).cps.toList (0 + ((i : Nat) : Int)) = some L[i] := by rw [Int.zero_add]; exact atI_nat hc
    generalize L[i] = c at hc hat
    rw [scGo_succ]
    generalize scGo L 0 i x0 = x at *
    have q40 : ("(" : Str) = S [40] := by decide +kernel
    have q41 : (")" : Str) = S [41] := by decide +kernel
    have qcs : (", " : Str) = S [44, 32] := by decide +kernel
    refine ⟨_, rfl, _, rfl, S L, _, c, rfl, rfl, by rw [hLl]; omega, hat, rfl, _, rfl, ?_⟩
    have ci : ∀ k : Nat, V.str (⟨#[c]⟩ : Str) = V.str (S [k]) → c = k := fun k e => by
      have e2 := S_inj (V.str.inj e)
      simpa using e2
    refine ite2 (fun z => ?_) (fun z => ?_)
    · have z1 : c = 40 := ci 40 (by rw [← q40]; exact of_decide_eq_true z)
      have e1 : scStep L x i = { x with d := x.d + 1 } := by
        unfold scStep
        rw [hc, if_pos (by rw [z1])]
      refine ⟨_, rfl, _, _, rfl, rfl, _, _, _, rfl, ?_, ?_, st, ?_⟩
      · rw [e1]; exact hs
      · rw [e1, hd]
      · rw [e1]; exact hL
    · have n1 : c ≠ 40 := fun e => z (decide_eq_true (by rw [q40, e]))
      refine ⟨_, rfl, _, rfl, S L, _, c, rfl, rfl, by rw [hLl]; omega, hat, rfl, _, rfl, ?_⟩
      refine ite2 (fun z => ?_) (fun z => ?_)
      · have z1 : c = 41 := ci 41 (by rw [← q41]; exact of_decide_eq_true z)
        have e1 : scStep L x i = { x with d := x.d - 1 } := by
          unfold scStep
          rw [hc, if_neg (by simp [z1]), if_pos (by simp [z1])]
        refine ⟨_, rfl, _, _, rfl, rfl, _, _, _, rfl, ?_, ?_, st, ?_⟩
        · rw [e1]; exact hs
        · rw [e1, hd]
        · rw [e1]; exact hL
      · have n2 : c ≠ 41 := fun e => z (decide_eq_true (by rw [q41, e]))
        have e1 : scStep L x i = if x.d = 0 ∧ cut L i (i + 2) = [44, 32] then { x with ps := x.ps ++ [cut L x.s i], s := i + 2 } else x := by
          unfold scStep
          rw [hc, if_neg (fun e => n1 (Option.some.inj e)), if_neg (fun e => n2 (Option.some.inj e))]
        refine ⟨_, rfl, rfl, _, rfl, ?_⟩
        refine ite2 (fun z0 => ?_) (fun z0 => ?_)
        · have d0 : x.d = 0 := by rw [← hd]; exact V.int.inj (of_decide_eq_true z0)
          refine ⟨_, rfl, _, rfl, _, rfl, ?_⟩
          refine ⟨_, rfl, _, _, rfl, rfl, _, rfl, S L, rfl, by rw [hLl]; omega, ?_⟩
          have es : Txt.slice (S L) (some (0 + ((i : Nat) : Int))) (some (0 + ((i : Nat) : Int) + 2)) = S (cut L i (i + 2)) := by
            rw [Int.zero_add]
            exact slice_nn L i (i + 2)
          rw [es]
          refine ⟨rfl, _, rfl, ?_⟩
          refine ite2 (fun z2 => ?_) (fun z2 => ?_)
          · have z3 : cut L i (i + 2) = [44, 32] := S_inj (by rw [← qcs]; exact V.str.inj (of_decide_eq_true z2))
            rw [if_pos ⟨d0, z3⟩] at e1
            refine ⟨_, rfl, .inl ⟨rfl, _, SqL.of hL⟩, _, rfl, _, rfl, _, rfl, _, rfl, _, rfl, S L, rfl, by rw [hLl]; omega, ?_⟩
            have es2 : Txt.slice (S L) (some s) (some (0 + ((i : Nat) : Int))) = S (cut L x.s i) := by
              rw [Int.zero_add, hs]
              exact slice_nn L x.s i
            rw [es2]
            refine ⟨l, _, _, rfl, rfl, hL, by rw [List.length_map, List.length_map]; omega, _, rfl, _, _, rfl, rfl, ?_⟩
            refine ⟨_, d, _, rfl, ?_, ?_, st.loc hl gl, ?_⟩
            · rw [e1, Int.zero_add]; rfl
            · rw [e1]; exact hd
            · rw [upd_same, e1]
              show some (HO.lst _) = some (HO.lst (((x.ps ++ [cut L x.s i]).map S).map V.str))
              rw [List.map_append, List.map_append]
              rfl
          · have z3 : ¬ cut L i (i + 2) = [44, 32] := fun e => z2 (decide_eq_true (by rw [qcs, e]))
            rw [if_neg (fun e => z3 e.2)] at e1
            refine ⟨s, d, _, rfl, ?_, ?_, st, ?_⟩
            · rw [e1]; exact hs
            · rw [e1]; exact hd
            · rw [e1]; exact hL
        · have d0 : ¬ x.d = 0 := fun e => z0 (decide_eq_true (by rw [hd, e]))
          rw [if_neg (fun e => d0 e.1)] at e1
          refine ⟨s, d, _, rfl, ?_, ?_, st, ?_⟩
          · rw [e1]; exact hs
          · rw [e1]; exact hd
          · rw [e1]; exact hL
  rintro σ H' ⟨s, d, o4, rfl, hs, hd, st, hL⟩
  rw [show (((L.length : Nat) : Int)).toNat = L.length from rfl] at hs hL
  have hx : scGo L 0 L.length x0 = ⟨[] ++ (ts.map Mt.txt).dropLast, kk, 0⟩ := hk1
  rw [hx] at hs hL
  refine ⟨_, rfl, .inl ⟨rfl, _, SqL.of hL⟩, _, rfl, _, rfl, _, rfl, S L, rfl, by rw [hLl]; omega, ?_⟩
  have es : Txt.slice (S L) (some s) none = S (L.drop kk) := by
    rw [hs]
    exact slice_from (a := L) (by show (0 : Int) ≤ (kk : Nat); omega)
  rw [es]
  have hdl : (([] ++ (ts.map Mt.txt).dropLast).map S).map V.str ++ [V.str (S (L.drop kk))] = ((ts.map Mt.txt).map S).map V.str := by
    have z := congrArg (fun y => (y.map S).map V.str) hk3
    simpa using z
  have hdn : (([] ++ (ts.map Mt.txt).dropLast).map S).map V.str = (((ts.map Mt.txt).dropLast).map S).map V.str := by simp
  obtain ⟨b1, _⟩ := sc_bound L L.length
  rw [hx] at b1
  refine ⟨l, _, _, rfl, rfl, hL, by rw [List.length_map, List.length_map]; show ([] ++ (ts.map Mt.txt).dropLast).length < sizeLine; have b2 : ([] ++ (ts.map Mt.txt).dropLast).length ≤ L.length := b1; omega, _, rfl, ?_⟩
  refine q _ l (st.loc hl gl) gl ?_
  rw [upd_same]
  exact congrArg (fun y => some (HO.lst y)) hdl
end Pf
namespace Bs
open PySem PySem.Spec PyProof.Rows L2 SX
def spRV (C : Addr) (n : Nat) : Sp := fun vs H Q _ => ∃ (G : Hp) (k : Nat) (t : Mt), vs = [.str (S t.txt)] ∧ IsVal k t ∧ Wt n t ∧ Same G H ∧ ∀ (G' H' : Hp) (x : Addr), Step none G H G' H' → TAt C G' (.ref x) t → Q (.ref x) H'
def spRC (C : Addr) (n : Nat) : Sp := fun vs H Q _ => ∃ (G : Hp) (k : Nat) (so : So) (o c : Nat) (w : List Nat) (ts : List Mt), vs = [.str (S (Mt.mk so w ts false).txt), .str so.s, .str (S [o]), .str (S [c])] ∧ (so = .func ∧ o = 40 ∧ c = 41 ∨ so = .rule ∧ o = 91 ∧ c = 93) ∧ NameOk (S w) ∧ 1 ≤ ts.length ∧
  (∀ t ∈ ts, IsVal k t) ∧ (∀ t ∈ ts, Wt n t) ∧ Shp so w ts ∧ Same G H ∧ ∀ (G' H' : Hp) (x : Addr), Step none G H G' H' → TAt C G' (.ref x) (.mk so w ts false) → Q (.ref x) H'
theorem call_txt {so : So} {o c : Nat} {w : List Nat} {ts : List Mt} (h : so = .func ∧ o = 40 ∧ c = 41 ∨ so = .rule ∧ o = 91 ∧ c = 93) : (Mt.mk so w ts false).txt = w ++ [o] ++ (TL.joinL [44, 32] (ts.map Mt.txt) ++ [c]) := by
  rcases h with ⟨rfl, rfl, rfl⟩ | ⟨rfl, rfl, rfl⟩
  · rw [fn_txt]; simp
  · rw [rule_txt]; simp
end Bs
namespace Pf
open PySem PySem.Spec PyProof.Rows L2 Bs SX
variable {P : Program} {w : World} {K : PySem.W.Frag} {mg : Str → Option Value} {base : Heap}
local macro_rules | `(tactic| walk_at "no") => `(tactic| refine ite2 (fun c => absurd c (by simp)) (fun _ => ?_))
abbrev N_read_call : List Str := ["text", "kind", "opening", "closing", "parts", "name", "_", "rest", "piece"]
theorem sc_read_call : FnScope N_read_call ["text", "kind", "opening", "closing"] (defScope s_read_call) := ⟨rfl, rfl, rfl, by decide +kernel, rfl, by decide +kernel, by decide +kernel⟩
theorem c_read_call_of (T : Tx K mg) {n : Nat} (c_read_value : C8.Cal P w K mg base (2 * n + 10) "_read_value" (spRV (CT K) n) []) : C8.Cal P w K mg base (2 * n + 11) "_read_call" (spRC (CT K) n) [] := by
  obtain ⟨fd, F⟩ := f_read_call T
  have c_is_name := c_is_name (P := P) (w := w) (base := base) T
  have c_pieces := c_pieces (P := P) (w := w) (base := base) T
  have m_Term3 := m_Term3 (P := P) (w := w) (base := base) T
  have pe_g_MOST_PARTS : ∀ {X : Cx} {pos : Pos}, X.mg = mg → Gl X "MOST_PARTS" → PE X (.Name "MOST_PARTS" pos) (tC (.int 3)) := fun h1 h2 => by
    obtain ⟨t, e⟩ := ci_MOST_PARTS T
    exact pe_glob h2 (by rw [h1]; exact e) ⟨t, rfl⟩
  refine mkCal F (g_read_call T) (F.bindsN fun _ _ _ _ _ _ us hl => match us, hl with | [_, _, _, _], _ => rfl) .nil sc_read_call (fun vs H Q E h => ?_) (fun cdv A outer s H vs Q E hr h => ?_)
  · obtain ⟨G, k, so, o, c, wn, ts, rfl, _⟩ := h
    rfl
  obtain ⟨G, k, so, o, c, wn, ts, rfl, hso, hw, h1, hts, hwt, sh, hG, q⟩ := h
  have sl : sizeLine = 16777216 := rfl
  have hn := hw.nm
  have l8 := hn.len
  have t3 := sh.t3
  have sj := joinL_len [44, 32] (ts.map Mt.txt)
  have ss := sum_le (xs := ts.map Mt.txt) (n := 600000) fun x hx => by
    obtain ⟨t, ht, rfl⟩ := List.mem_map.mp hx
    exact sh.tx t ht
  have s3 : (ts.map Mt.txt).length * 600000 ≤ 3 * 600000 := Nat.mul_le_mul_right _ (by rw [List.length_map]; exact sh.t3)
  have l2 : ([44, 32] : List Nat).length = 2 := rfl
  rw [l2, List.length_map] at sj
  have hjl : (TL.joinL [44, 32] (ts.map Mt.txt)).length ≤ 1900000 := by omega
  refine ⟨_, (pss_cons (ps_asg (pe_m1 PySem.F.slot_str_partition PySem.F.type_str_partition mt_partition (pv 0) (pv 2)) (pg_tup rfl (pgs_cons (pg_name (i := 5) sc_read_call.nd rfl (Or.inl rfl)) (pgs_cons (pg_name (i := 6) sc_read_call.nd rfl (Or.inl rfl)) (pgs_cons (pg_name (i := 7) sc_read_call.nd rfl (Or.inl rfl)) pgs_nil)))))
    (pss_cons (ps_if (PW.pt (pw_or (pt_not (pt_val (C8.pe_c c_is_name hr (by first | decide | omega) rfl (pa_cons (pv 5) pa_nil)))) (pw_or1 (pt_not (pt_val (pe_m1 PySem.F.slot_str_endswith PySem.F.type_str_endswith mt_endswith (pv 7) (pv 3))))))) (pss_one (ps_ret pe_non)) pss_nil)
    (pss_cons (ps_setLc (i := 4) (own := [("piece", 8)]) rfl sc_read_call.nd rfl rfl (sw_true rfl rfl rfl (by decide +kernel)) (pi_listK (K := K) rfl (C8.pe_c c_pieces hr (by first | decide | omega) rfl (pa_cons (pe_slice C8.sl_txt (pv 7) po_none (po_some (pe_un un_neg pe_int))) pa_nil))) (blkOk_by (N := N_read_call) (sc := defScope s_read_call) (by decide +kernel)) (fun _ _ _ _ _ => (pg_name (i := 8) sc_read_call.nd rfl (Or.inl rfl))) (fun _ _ _ _ _ => pts_nil) (fun _ _ _ _ _ => (C8.pe_c c_read_value hr (by first | decide | omega) rfl (pa_cons (pv 8) pa_nil))))
    (pss_cons (ps_if (PW.pt (pw_or (pt_cmpR op_gt (pe_callB (call_len_seqK (K := K) rfl) (by rfl) (z_len T) boot_len (pa_cons (pv 4) pa_nil)) (pe_g_MOST_PARTS rfl rfl) (nomark _)) (pw_or1 (pt_cmpR (op_noneIn (K := K) rfl (own_eq T rfl rfl rfl rfl rfl) (hr.mono (by omega))) pe_non (pv 4) (by rfl))))) (pss_one (ps_ret pe_non)) pss_nil)
    (pss_one (ps_ret (C8.pe_mk m_Term3 hr (by first | decide | omega) rfl (pa_cons (pv 1) (pa_cons (pv 5) (pa_cons (pv 4) pa_nil)))))))))), ?_⟩
  rw [call_txt hso]
  refine ⟨_, rfl, ⟨_, rfl⟩, _, rfl, S _, S [o], rfl, rfl, by rw [S_len]; rfl, by rw [S_len]; simp; omega, ?_⟩
  have on : o ∉ wn := fun z => by
    have := hn.sg o z
    rcases hso with ⟨_, rfl, _⟩ | ⟨_, rfl, _⟩
    · exact no_sgn.2.2.2.2.2.1 this
    · exact no_sgn.2.2.2.2.2.2.1 this
  have ep : ∀ R : List Nat, Txt.partition (S (wn ++ [o] ++ R)) (S [o]) = (S wn, S [o], S R) := fun R => by
    rw [← S_cat, ← S_cat]
    exact TL.partition_app (s := o) (S := []) rfl on
  intro p hp
  rw [ep]
  refine ⟨p, _, rfl, SqT.of upd_same, rfl, _, _, rfl, _, _, rfl, _, _, rfl, rfl, ?_⟩
  have s1 := (Step.refl (p := none) hG).loc (o := .tup [.str (S wn), .str (S [o]), .str (S (TL.joinL [44, 32] (ts.map Mt.txt) ++ [c]))]) hp (hG.free hp)
  refine ⟨_, rfl, G, wn, rfl, hw, s1.gh, fun H1 s2 => ⟨true, rfl, ?_⟩⟩
  walk_at "no"
  have ee : Txt.endswith (S (TL.joinL [44, 32] (ts.map Mt.txt) ++ [c])) (S [c]) = true := by
    rw [ew_S _ _ (by simp)]
    exact decide_eq_true (by simp)
  refine ⟨_, rfl, ⟨_, rfl⟩, _, rfl, S (TL.joinL [44, 32] (ts.map Mt.txt) ++ [c]), S [c], rfl, rfl, _, rfl, ?_⟩
  refine ite2 (fun z => absurd z (by rw [ee]; simp)) (fun _ => ?_)
  refine ⟨_, rfl, _, rfl, _, rfl, S (TL.joinL [44, 32] (ts.map Mt.txt) ++ [c]), rfl, by rw [S_len, List.length_append, List.length_singleton]; omega, ?_⟩
  have es : Txt.slice (S (TL.joinL [44, 32] (ts.map Mt.txt) ++ [c])) none (some (-1)) = S (TL.joinL [44, 32] (ts.map Mt.txt)) := by
    rw [slice_butlast (by simp)]
    congr 1
    simp
  rw [show (-(1 : Int)) = -1 from rfl, es]
  have s12 := s1.trans s2
  refine ⟨G, k, ts, rfl, hts, h1, by omega, s12.gh, fun H3 l s3 gl hl => ⟨l, rfl, ⟨_, SqL.of hl⟩, fun D hD => ?_⟩⟩
  have s13 := s12.trans s3
  have gD := s13.gh.free hD
  refine lc_list (K := K) (a := l) (xs := ((ts.map Mt.txt).map S).map V.str) (fun i H' => ∃ (G' : Hp) (ys : List V), Step none G H3 G' H' ∧ G' D = none ∧ H' D = some (.lst ys) ∧ All2 (TAt (CT K) G') ys (ts.take i)) ⟨G, [], (Step.refl s13.gh).loc hD gD, gD, upd_same, .nil⟩ ?_ ?_ ?_
  · rintro i H' _ ⟨G', ys, st, _⟩
    exact SqL.of (st.same _ _ hl)
  · rintro i x H' hx ⟨G', ys, st, g', hL, hall⟩
    rw [List.getElem?_map, List.getElem?_map, List.getElem?_map] at hx
    obtain ⟨t, ht⟩ : ∃ t, ts[i]? = some t := by
      cases e : ts[i]? with
      | none => rw [e] at hx; cases hx
      | some t => exact ⟨t, rfl⟩
    rw [ht] at hx
    cases hx
    have mt := List.mem_of_getElem? ht
    refine ⟨rfl, ?_⟩
    unfold tYes
    refine iteT ⟨_, rfl, G', k, t, rfl, hts t mt, hwt t mt, st.gh, fun G2 H2 y s4 hy => ⟨_, s4.same _ _ hL, ?_, G2, ys ++ [.ref y], ?_, ?_, upd_same, ?_⟩⟩
    · have := hall.len
      rw [List.length_take] at this
      omega
    · exact (st.trans s4).loc hD (s4.out g' (by rw [hL]; exact fun z => by cases z))
    · exact s4.out g' (by rw [hL]; exact fun z => by cases z)
    · rw [take_one ht]
      exact (hall.mono fun _ _ r => r.same s4.gg).app (.cons hy .nil)
  rintro H4 ⟨G4, ys, st, g4, hL, hall⟩
  rw [List.length_map, List.length_map, List.length_map, List.take_length] at hall
  have hyl := hall.len
  refine ⟨_, rfl, D, ys, rfl, .inl (SqL.of hL), _, _, rfl, rfl, _, rfl, ?_⟩
  refine ite2 (fun z => absurd (of_decide_eq_true z) (by omega)) (fun _ => ?_)
  have kk := (Hd.kitsB_ok (ex_1 T) (t := "NoneType") (by simp)).2
  refine ⟨_, rfl, D, ys, rfl, rfl, hL, kk, fun z hz => ?_, _, rfl, ?_⟩
  · obtain ⟨i, hi⟩ := List.getElem?_of_mem hz
    obtain ⟨t, ht, mt⟩ := get_pair hyl hi
    have hT := hall.get hi ht
    obtain ⟨a1, dx1, l1, so1, w1, ts1, b1, rfl, _, ha1⟩ := hT.obj
    exact ⟨a1, dx1, _, rfl, st.gh _ _ ha1, G4, t, st.gh, hT, .inr ⟨rfl, "NoneType", by simp, .base .non⟩⟩
  walk_at "no"
  refine ⟨_, rfl, _, rfl, _, rfl, ?_⟩
  exact make_term (so := so) (w := wn) (b := false) (pv := ys) (ts := ts) st.gh (.inl (SqL.of hL)) hyl (fun i v t h1 h2 => hall.get h1 h2) sh fun G5 H5 y s5 hy _ => q G5 H5 y ((s13.trans st).trans s5) (by simpa using hy)
end Pf
namespace Bs
open PySem PySem.Spec PyProof.Rows L2 SX
theorem row_no {r : Mt} {c : Nat} (h : IsRow r) (hc : ¬ sgn c) (h39 : c ≠ 39) : c ∉ r.txt := fun z => by
  obtain ⟨w, b, rfl, hw, e⟩ := Bs.row_txt h
  rw [e] at z
  rcases List.mem_append.mp z with z | z
  · exact hc (hw.nm.sg c z)
  · cases b
    · cases z
    · exact h39 (List.mem_singleton.mp z)
end Bs
namespace Pf
open PySem PySem.Spec PyProof.Rows L2 Bs SX
variable {P : Program} {w : World} {K : PySem.W.Frag} {mg : Str → Option Value} {base : Heap}
local macro_rules | `(tactic| walk_at "no") => `(tactic| refine ite2 (fun c => absurd c (by simp)) (fun _ => ?_))
abbrev N_read_value : List Str := ["text", "row", "before", "_", "name"]
theorem sc_read_value : FnScope N_read_value ["text"] (defScope s_read_value) := ⟨rfl, rfl, rfl, by decide +kernel, rfl, by decide +kernel, by decide +kernel⟩
theorem c_read_value (T : Tx K mg) : ∀ n : Nat, C8.Cal P w K mg base (2 * n + 10) "_read_value" (spRV (CT K) n) []
  | 0 => by
    obtain ⟨fd, F⟩ := f_read_value T
    exact Cal.mono (cal_none F (g_read_value T) (F.bindsN (ps := ["text"]) fun _ _ _ _ _ _ us hl => match us, hl with | [_], _ => rfl) fun vs H Q E ⟨G, k, t, _, _, h, _⟩ => nomatch h) (Nat.zero_le _)
  | n + 1 => by
    obtain ⟨fd, F⟩ := f_read_value T
    have c_read_call := c_read_call_of T (c_read_value T n)
    have c_is_name := c_is_name (P := P) (w := w) (base := base) T
    have c_read_row := c_read_row (P := P) (w := w) (base := base) T
    have m_Term3 := m_Term3 (P := P) (w := w) (base := base) T
    show C8.Cal P w K mg base (2 * n + 11 + 1) _ _ _
    refine mkCal F (g_read_value T) (F.bindsN fun _ _ _ _ _ _ us hl => match us, hl with | [_], _ => rfl) .nil sc_read_value (fun vs H Q E h => ?_) (fun cdv A outer s H vs Q E hr h => ?_)
    · obtain ⟨G, k, t, rfl, _⟩ := h
      rfl
    obtain ⟨G, k, t, rfl, hv, hw, hG, q⟩ := h
    have sl : sizeLine = 16777216 := rfl
    have q40 : ("(" : Str) = S [40] := by decide +kernel
    have q41 : (")" : Str) = S [41] := by decide +kernel
    have q46 : ("." : Str) = S [46] := by decide +kernel
    refine ⟨_, (pss_cons (ps_if (pt_cmpR op_in_sign pe_str (pv 0) (by rfl)) (pss_one (ps_ret (C8.pe_c c_read_call hr (by first | decide | omega) rfl (pa_cons (pv 0) (pa_cons pe_str (pa_cons pe_str (pa_cons pe_str pa_nil))))))) pss_nil)
    (pss_cons (ps_asg (pe_m1 PySem.F.slot_str_partition PySem.F.type_str_partition mt_partition (pv 0) pe_str) (pg_tup rfl (pgs_cons (pg_name (i := 2) sc_read_value.nd rfl (Or.inl rfl)) (pgs_cons (pg_name (i := 3) sc_read_value.nd rfl (Or.inl rfl)) (pgs_cons (pg_name (i := 4) sc_read_value.nd rfl (Or.inl rfl)) pgs_nil)))))
    (pss_cons (ps_set (i := 1) sc_read_value.nd rfl (Or.inl rfl) (C8.pe_c c_read_row hr (by first | decide | omega) rfl (pa_cons (pv 2) pa_nil)))
    (pss_one (ps_ret (pe_ifExp (PW.pt (pw_or (pt_cmpR op_isN (pv 1) pe_non (nomark _)) (pw_or1 (pt_not (pt_val (C8.pe_c c_is_name hr (by first | decide | omega) rfl (pa_cons (pv 4) pa_nil))))))) pe_non (C8.pe_mk m_Term3 hr (by first | decide | omega) rfl (pa_cons pe_str (pa_cons (pv 4) (pa_cons (pe_lst (pa_cons (pv 1) pa_nil)) pa_nil)))))))))), ?_⟩
    refine ⟨_, rfl, 40, S t.txt, by rw [q40], rfl, _, rfl, ?_⟩
    cases hw with
    | @mk n so wn ts b h2 hs =>
    have sh := h2.sh
    cases hv with
    | @fn k w0 ts0 h h1 h3 hvs =>
      have m40 : 40 ∈ (S (Mt.mk .func wn ts false).txt).cps.toList := by
        rw [S_tl', fn_txt]
        simp
      refine ite2 (fun _ => ?_) (fun c => absurd (decide_eq_true m40) c)
      refine ⟨_, rfl, G, k, .func, 40, 41, wn, ts, by rw [q40, q41]; rfl, .inl ⟨rfl, rfl, rfl⟩, h, h1, hvs, hs, sh, hG, q⟩
    | @col k w0 r h hr0 =>
      have m40 : ¬ 40 ∈ (S (Mt.mk .column wn [r] false).txt).cps.toList := by
        rw [S_tl', col_txt, List.mem_append, List.mem_append]
        rintro ((z | z) | z)
        · exact row_no hr0 no_sgn.2.2.2.2.2.1 (by omega) z
        · simp at z
        · exact no_sgn.2.2.2.2.2.1 (h.nm.sg 40 z)
      refine ite2 (fun c => absurd (of_decide_eq_true c) m40) (fun _ => ?_)
      have l8 := h.nm.len
      have hrl := row_len hr0
      have ep : Txt.partition (S (Mt.mk .column wn [r] false).txt) (S [46]) = (S r.txt, S [46], S wn) := by
        rw [col_txt, ← S_cat, ← S_cat]
        exact TL.partition_app (s := 46) (S := []) rfl (row_no hr0 no_sgn.2.2.2.1 (by omega))
      refine ⟨_, rfl, ⟨_, rfl⟩, S _, S [46], rfl, by rw [q46], by rw [S_len]; rfl, by rw [S_len, col_txt]; simp; omega, ?_⟩
      intro p hp
      rw [ep]
      refine ⟨p, _, rfl, SqT.of upd_same, rfl, _, _, rfl, _, _, rfl, _, _, rfl, rfl, ?_⟩
      have s1 := (Step.refl (p := none) hG).loc (o := .tup [.str (S r.txt), .str (S [46]), .str (S wn)]) hp (hG.free hp)
      refine ⟨_, rfl, G, r, rfl, hr0, s1.gh, fun G1 H1 x s2 hx => ?_⟩
      refine ⟨_, rfl, rfl, _, rfl, ?_⟩
      refine ite2 (fun c => absurd (of_decide_eq_true c) (fun z => by cases z)) (fun _ => ?_)
      refine ⟨_, rfl, G1, wn, rfl, h, s2.gh, fun H2 s3 => ⟨true, rfl, ?_⟩⟩
      walk_at "no"
      refine ⟨_, rfl, _, rfl, by show 1 ≤ sizeLine; decide, fun l hl => ?_⟩
      have s4 := ((s1.trans s2).trans s3).loc (o := .lst [.ref x]) (((s1.trans s2).trans s3).free hl) (s3.gh.free hl)
      have hx3 : All2 (TAt (CT K) G1) [.ref x] [r] := .cons hx .nil
      exact make_term (so := .column) (w := wn) (b := false) (pv := [.ref x]) (ts := [r]) s4.gh (.inl (SqL.of upd_same)) rfl (fun i v t h1 h2 => hx3.get h1 h2) sh fun G5 H5 y s5 hy _ => q G5 H5 y (s4.trans s5) (by simpa using hy)
end Pf
namespace Bs
open PySem PySem.Spec PyProof.Rows L2 SX
def spRT (C : Addr) : Sp := fun vs H Q _ => ∃ (G : Hp) (t : Mt), vs = [.str (S t.txt)] ∧ Gd t ∧ Wt 12 t ∧ Same G H ∧ ∀ (G' H' : Hp) (x : Addr), Step none G H G' H' → TAt C G' (.ref x) t → Q (.ref x) H'
theorem mem_join {sep : List Nat} {c : Nat} : ∀ {xs : List (List Nat)}, c ∈ TL.joinL sep xs → c ∈ sep ∨ ∃ x ∈ xs, c ∈ x
  | [], h => by cases h
  | [x], h => .inr ⟨x, List.mem_cons_self, h⟩
  | x :: y :: r, h => by
    have h' : c ∈ x ++ sep ++ TL.joinL sep (y :: r) := by simpa [TL.joinL] using h
    rcases List.mem_append.mp h' with h' | h'
    · rcases List.mem_append.mp h' with h' | h'
      · exact .inr ⟨x, List.mem_cons_self, h'⟩
      · exact .inl h'
    · rcases mem_join h' with z | ⟨u, hu, hc⟩
      · exact .inl z
      · exact .inr ⟨u, List.mem_cons_of_mem _ hu, hc⟩
theorem join_mem {sep : List Nat} {c : Nat} : ∀ {xs : List (List Nat)} {x : List Nat}, x ∈ xs → c ∈ x → c ∈ TL.joinL sep xs
  | [y], x, h, hc => by rw [List.mem_singleton.mp h] at hc; exact hc
  | y :: z :: r, x, h, hc => by
    have e : TL.joinL sep (y :: z :: r) = y ++ sep ++ TL.joinL sep (z :: r) := by simp [TL.joinL]
    rw [e]
    rcases List.mem_cons.mp h with rfl | h
    · exact List.mem_append_left _ (List.mem_append_left _ hc)
    · exact List.mem_append_right _ (join_mem h hc)
theorem row_chars {r : Mt} {c : Nat} (h : IsRow r) (hc : c ∈ r.txt) : sgn c ∨ c = 39 := by
  obtain ⟨w, b, rfl, hw, e⟩ := Bs.row_txt h
  rw [e] at hc
  rcases List.mem_append.mp hc with hc | hc
  · exact .inl (hw.nm.sg c hc)
  · cases b
    · cases hc
    · exact .inr (List.mem_singleton.mp hc)
theorem val_chars : ∀ {n : Nat} {t : Mt}, IsVal n t → ∀ c ∈ t.txt, sgn c ∨ c = 39 ∨ c = 46 ∨ c = 40 ∨ c = 41 ∨ c = 44 ∨ c = 32 := fun {n t} h => by
  induction h with
  | @col n w r h hr =>
    intro c hc
    rw [col_txt] at hc
    rcases List.mem_append.mp hc with hc | hc
    · rcases List.mem_append.mp hc with hc | hc
      · rcases row_chars hr hc with z | z
        · exact .inl z
        · exact .inr (.inl z)
      · exact .inr (.inr (.inl (List.mem_singleton.mp hc)))
    · exact .inl (h.nm.sg c hc)
  | @fn n w ts h h1 h3 hs ih =>
    intro c hc
    rw [fn_txt] at hc
    rcases List.mem_append.mp hc with hc | hc
    · rcases List.mem_append.mp hc with hc | hc
      · rcases List.mem_append.mp hc with hc | hc
        · exact .inl (h.nm.sg c hc)
        · have := List.mem_singleton.mp hc; omega
      · rcases mem_join hc with z | ⟨x, hx, hc⟩
        · simp at z; omega
        · obtain ⟨t, ht, rfl⟩ := List.mem_map.mp hx
          exact ih t ht c hc
    · have := List.mem_singleton.mp hc; omega
theorem val_dot : ∀ {n : Nat} {t : Mt}, IsVal n t → 46 ∈ t.txt := fun {n t} h => by
  induction h with
  | @col n w r h hr => rw [col_txt]; simp
  | @fn n w ts h h1 h3 hs ih =>
    rw [fn_txt]
    cases ts with
    | nil => simp at h1
    | cons t r =>
      have z := join_mem (sep := [44, 32]) (xs := (t :: r).map Mt.txt) (List.mem_map_of_mem (f := Mt.txt) (List.mem_cons_self (a := t) (l := r))) (ih t List.mem_cons_self)
      exact List.mem_append_left _ (List.mem_append_right _ z)
theorem head_ltr {t : Mt} (h : ∃ w q : List Nat, Nm w ∧ t.txt = w ++ q ∧ True) : ∃ c, t.txt[0]? = some c ∧ ltr c := by
  obtain ⟨w, q, hw, e, _⟩ := h
  obtain ⟨c, h1, h2⟩ := nm_head (q := q) hw
  exact ⟨c, by rw [e, ← List.head?_eq_getElem?]; exact h1, h2⟩
end Bs
namespace Pf
open PySem PySem.Spec PyProof.Rows L2 Bs SX
variable {P : Program} {w : World} {K : PySem.W.Frag} {mg : Str → Option Value} {base : Heap}
abbrev N_read_term : List Str := ["text", "row"]
theorem sc_read_term : FnScope N_read_term ["text"] (defScope s_read_term) := ⟨rfl, rfl, rfl, by decide +kernel, rfl, by decide +kernel, by decide +kernel⟩
theorem c_read_term (T : Tx K mg) : C8.Cal P w K mg base 36 "_read_term" (spRT (CT K)) [] := by
  obtain ⟨fd, F⟩ := f_read_term T
  have c_read_value := c_read_value (P := P) (w := w) (base := base) T 12
  have c_read_call := c_read_call_of T (n := 12) c_read_value
  have c_read_row := c_read_row (P := P) (w := w) (base := base) T
  have c_zero_term := c_zero_term (P := P) (w := w) (base := base) T
  have m_Term3 := m_Term3 (P := P) (w := w) (base := base) T
  refine mkCal F (g_read_term T) (F.bindsN fun _ _ _ _ _ _ us hl => match us, hl with | [_], _ => rfl) .nil sc_read_term (fun vs H Q E h => ?_) (fun cdv A outer s H vs Q E hr h => ?_)
  · obtain ⟨G, t, rfl, _⟩ := h
    rfl
  obtain ⟨G, t, rfl, hg, hw, hG, q⟩ := h
  have sl : sizeLine = 16777216 := rfl
  have q48 : ("0" : Str) = S [48] := by decide +kernel
  have q64 : ("@" : Str) = S [64] := by decide +kernel
  have q91 : ("[" : Str) = S [91] := by decide +kernel
  have q93 : ("]" : Str) = S [93] := by decide +kernel
  have q46 : ("." : Str) = S [46] := by decide +kernel
  have eE : ("" : Str) = S [] := by decide +kernel
  have n91 : ¬ (sgn 91 ∨ 91 = 39 ∨ 91 = 46 ∨ 91 = 40 ∨ 91 = 41 ∨ 91 = 44 ∨ 91 = 32) := by unfold sgn ltr; omega
  have ne48 : ∀ {u : Mt}, (∃ w q : List Nat, Nm w ∧ u.txt = w ++ q ∧ True) → ¬ V.str (S u.txt) = V.str "0" := fun {u} h e => by
    obtain ⟨c, h1, h2⟩ := head_ltr h
    have e2 : S u.txt = S [48] := by rw [← q48]; exact V.str.inj e
    rw [S_inj e2] at h1
    cases h1
    exact l64.2 h2
  have ne64 : ∀ {u : Mt}, (∃ w q : List Nat, Nm w ∧ u.txt = w ++ q ∧ True) → ¬ Txt.startswith (S u.txt) "@" = true := fun h e => by
    obtain ⟨c, h1, h2⟩ := head_ltr h
    rw [q64, sw_S, h1] at e
    have := Option.some.inj (of_decide_eq_true e)
    exact l64.1 (this ▸ h2)
  have rw_ : ∀ {u : Mt}, IsRow u → ∃ w q : List Nat, Nm w ∧ u.txt = w ++ q ∧ True := fun h => let ⟨w, q, a, b, _⟩ := row_shape h; ⟨w, q, a, b, trivial⟩
  have vl_ : ∀ {n : Nat} {u : Mt}, IsVal n u → ∃ w q : List Nat, Nm w ∧ u.txt = w ++ q ∧ True := fun h => let ⟨w, q, a, b, _⟩ := val_shape h; ⟨w, q, a, b, trivial⟩
  have rl_ : ∀ {w0 : List Nat} {ts : List Mt}, NameOk (S w0) → ∃ w q : List Nat, Nm w ∧ (Mt.mk .rule w0 ts false).txt = w ++ q ∧ True := fun {w0 ts} h => let ⟨w, q, a, b, _⟩ := rule_shape (ts := ts) h; ⟨w, q, a, b, trivial⟩
  refine ⟨_, (pss_cons (ps_if (pt_cmpR op_eq (pv 0) pe_str (nomark _)) (pss_one (ps_ret (pe_c0 c_zero_term hr (by first | decide | omega) rfl))) pss_nil)
    (pss_cons (ps_if (pt_val (pe_m1 PySem.F.slot_str_startswith PySem.F.type_str_startswith mt_startswith (pv 0) pe_str)) (pss_cons (ps_set (i := 1) sc_read_term.nd rfl (Or.inl rfl) (C8.pe_c c_read_row hr (by first | decide | omega) rfl (pa_cons (pe_slice C8.sl_txt (pv 0) (po_some pe_int) po_none) pa_nil)))
    (pss_one (ps_ret (pe_ifExp (pt_cmpR op_isN (pv 1) pe_non (nomark _)) pe_non (C8.pe_mk m_Term3 hr (by first | decide | omega) rfl (pa_cons pe_str (pa_cons pe_str (pa_cons (pe_lst (pa_cons (pv 1) pa_nil)) pa_nil)))))))) pss_nil)
    (pss_cons (ps_if (pt_cmpR op_in_sign pe_str (pv 0) (by rfl)) (pss_one (ps_ret (C8.pe_c c_read_call hr (by first | decide | omega) rfl (pa_cons (pv 0) (pa_cons pe_str (pa_cons pe_str (pa_cons pe_str pa_nil))))))) pss_nil)
    (pss_cons (ps_if (pt_cmpR op_in_sign pe_str (pv 0) (by rfl)) (pss_one (ps_ret (C8.pe_c c_read_value hr (by first | decide | omega) rfl (pa_cons (pv 0) pa_nil)))) pss_nil)
    (pss_one (ps_ret (C8.pe_c c_read_row hr (by first | decide | omega) rfl (pa_cons (pv 0) pa_nil)))))))), ?_⟩
  refine ⟨_, rfl, rfl, _, rfl, ?_⟩
  cases hg with
  | zero =>
    refine ite2 (fun _ => ?_) (fun c => absurd (decide_eq_true (by rw [zero_txt, ← q48])) c)
    exact ⟨G, rfl, hG, fun G' H' x st hx _ => q G' H' x st hx⟩
  | @place r h =>
    refine ite2 (fun c => absurd (of_decide_eq_true c) (fun e => by
      have e2 : S (Mt.mk .place [] [r] false).txt = S [48] := by rw [← q48]; exact V.str.inj e
      have this := S_inj e2
      rw [place_txt] at this
      simp at this)) (fun _ => ?_)
    have hrl := row_len h
    refine ⟨_, rfl, ⟨_, rfl⟩, S _, "@", rfl, rfl, _, rfl, ?_⟩
    refine ite2 (fun _ => ?_) (fun c => absurd (by rw [q64, sw_S, place_txt]; rfl) c)
    refine ⟨_, rfl, _, rfl, S _, rfl, by rw [S_len, place_txt, List.length_cons]; omega, ?_⟩
    have es : Txt.slice (S (Mt.mk .place [] [r] false).txt) (some 1) none = S r.txt := by
      rw [slice_from (by omega), place_txt]
      rfl
    rw [es]
    refine ⟨G, r, rfl, h, hG, fun G1 H1 x s2 hx => ?_⟩
    refine ⟨_, rfl, rfl, _, rfl, ?_⟩
    refine ite2 (fun c => absurd (of_decide_eq_true c) (fun z => by cases z)) (fun _ => ?_)
    refine ⟨_, rfl, by show 1 ≤ sizeLine; decide, fun l hl => ?_⟩
    have s4 := s2.loc (o := .lst [.ref x]) (s2.free hl) (s2.gh.free hl)
    have hx3 : All2 (TAt (CT K) G1) [.ref x] [r] := .cons hx .nil
    cases hw with
    | mk h2 hs =>
    rw [eE]
    exact make_term (so := .place) (w := []) (b := false) (pv := [.ref x]) (ts := [r]) s4.gh (.inl (SqL.of upd_same)) rfl (fun i v t h1 h2 => hx3.get h1 h2) h2.sh fun G5 H5 y s5 hy _ => q G5 H5 y (s4.trans s5) (by simpa using hy)
  | row h =>
    refine ite2 (fun c => absurd (of_decide_eq_true c) (ne48 (rw_ h))) (fun _ => ?_)
    refine ⟨_, rfl, ⟨_, rfl⟩, S _, "@", rfl, rfl, _, rfl, ?_⟩
    refine ite2 (fun c => absurd c (ne64 (rw_ h))) (fun _ => ?_)
    refine ⟨_, rfl, 91, S _, by rw [q91], rfl, _, rfl, ?_⟩
    refine ite2 (fun c => absurd (of_decide_eq_true c) (row_no h no_sgn.2.2.2.2.2.2.1 (by omega))) (fun _ => ?_)
    refine ⟨_, rfl, 46, S _, by rw [q46], rfl, _, rfl, ?_⟩
    refine ite2 (fun c => absurd (of_decide_eq_true c) (row_no h no_sgn.2.2.2.1 (by omega))) (fun _ => ?_)
    exact ⟨_, rfl, G, t, rfl, h, hG, q⟩
  | @val n _ h =>
    refine ite2 (fun c => absurd (of_decide_eq_true c) (ne48 (vl_ h))) (fun _ => ?_)
    refine ⟨_, rfl, ⟨_, rfl⟩, S _, "@", rfl, rfl, _, rfl, ?_⟩
    refine ite2 (fun c => absurd c (ne64 (vl_ h))) (fun _ => ?_)
    refine ⟨_, rfl, 91, S _, by rw [q91], rfl, _, rfl, ?_⟩
    refine ite2 (fun c => absurd (val_chars h 91 (of_decide_eq_true c)) n91) (fun _ => ?_)
    refine ⟨_, rfl, 46, S _, by rw [q46], rfl, _, rfl, ?_⟩
    refine ite2 (fun _ => ?_) (fun c => absurd (decide_eq_true (val_dot h)) c)
    exact ⟨_, rfl, G, n, t, rfl, h, hw, hG, q⟩
  | @rule n w0 ts h h1 hs =>
    refine ite2 (fun c => absurd (of_decide_eq_true c) (ne48 (rl_ h))) (fun _ => ?_)
    refine ⟨_, rfl, ⟨_, rfl⟩, S _, "@", rfl, rfl, _, rfl, ?_⟩
    refine ite2 (fun c => absurd c (ne64 (rl_ h))) (fun _ => ?_)
    refine ⟨_, rfl, 91, S _, by rw [q91], rfl, _, rfl, ?_⟩
    refine ite2 (fun _ => ?_) (fun c => absurd (decide_eq_true (by rw [S_tl', rule_txt]; simp)) c)
    cases hw with
    | mk h2 hws =>
    exact ⟨_, rfl, G, n, .rule, 91, 93, w0, ts, by rw [q91, q93]; rfl, .inr ⟨rfl, rfl, rfl⟩, h, h1, hs, fun t ht => (hws t ht).up (by omega), h2.sh, hG, q⟩
end Pf
namespace Bs
open PySem PySem.Spec PyProof.Rows L2 SX
def spRead (C : Addr) : Sp := fun vs H Q E => ∃ y : V, vs = [.ref C, y] ∧ spRT C [y] H Q E
end Bs
namespace Pf
open PySem PySem.Spec PyProof.Rows L2 Bs SX
variable {P : Program} {w : World} {K : PySem.W.Frag} {mg : Str → Option Value} {base : Heap}
abbrev N_Term_read : List Str := ["cls", "text", "term"]
theorem sc_Term_read : FnScope N_Term_read ["cls", "text"] (defScope s_Term_read) := ⟨rfl, rfl, rfl, by decide +kernel, rfl, by decide +kernel, by decide +kernel⟩
theorem o_read (T : Tx K mg) : ∃ fd, FnOk P w K mg base C8.CX0 37 (Hd.inRec "classmethod" "Term" "read" K) fd ["cls", "text"] (spRead (CT K)) ∧ Binds K fd ["cls", "text"] [] := by
  obtain ⟨fd, F⟩ := f_Term_read T
  have c_read_term := c_read_term (P := P) (w := w) (base := base) T
  refine ⟨fd, ok0 (k := 36) F sc_Term_read (fun vs H Q E h => ?_) (fun cdv A outer s H vs Q E hr h => ?_), F.bindsN fun _ _ _ _ _ _ us hl => match us, hl with | [_, _], _ => rfl⟩
  · obtain ⟨y, rfl, _⟩ := h
    rfl
  obtain ⟨y, rfl, G, t, e, hg, hw, hG, q⟩ := h
  cases e
  refine ⟨_, (pss_cons (ps_set (i := 2) sc_Term_read.nd rfl (Or.inl rfl) (C8.pe_c c_read_term hr (by first | decide | omega) rfl (pa_cons (pv 1) pa_nil)))
    (pss_cons (ps_if (pt_cmpR op_isN (pv 2) pe_non (nomark _)) (pss_one ps_no) pss_nil) (pss_one (ps_ret (pv 2))))), ?_⟩
  refine ⟨_, rfl, G, t, rfl, hg, hw, hG, fun G' H' x st hx => ?_⟩
  refine ⟨_, rfl, rfl, _, rfl, ?_⟩
  refine ite2 (fun c => absurd (of_decide_eq_true c) (fun z => by cases z)) (fun _ => ?_)
  exact ⟨_, rfl, q G' H' x st hx⟩
end Pf
namespace Bs
open PySem PySem.Spec PyProof.Rows L2 SX
def spNest (K : PySem.W.Frag) : Sp := fun vs H Q _ => ∃ (G : Hp) (p : Addr) (n : Nat) (lo : V), vs = [.ref p, lo] ∧ Ps K G H p n ∧ n ≤ 880000 ∧ Lot G lo ∧
  ∀ (G' H' : Hp) (v : V) (m : Mt), Step (some p) G H G' H' → Ps K G' H' p (n + 30) → MAt G' v m → Gd m → Wt 12 m → Q v H'
theorem one_wt {so : So} {j : Nat} {w : List Nat} {m : Mt} (hso : so = .func ∨ so = .rule) (h : NameOk (S w)) (hw : Wt j m) (hl : m.txt.length ≤ 600) : Wt (j + 1) (.mk so w [m] false) := by
  refine .mk ⟨⟨h.len8, by simp, (fun t ht => ?_), (fun h => ?_)⟩, fun _ => rfl, (fun h => ?_), (fun h => ?_), (fun h => ?_), fun _ => by simp⟩ (fun t ht => by rw [List.mem_singleton.mp ht]; exact hw)
  · rw [List.mem_singleton.mp ht]; omega
  all_goals rcases hso with rfl | rfl <;> rcases h with h | h <;> cases h
end Bs
namespace Pf
open PySem PySem.Spec PyProof.Rows L2 Bs SX
variable {P : Program} {w : World} {K : PySem.W.Frag} {mg : Str → Option Value} {base : Heap}
abbrev N_Lnested : List Str := ["_law_pen_here", "_law_lot_here", "_law_model", "_law_many", "_law_k"]
theorem sc_Lnested : FnScope N_Lnested ["_law_pen_here", "_law_lot_here"] (defScope s_Lnested) := ⟨rfl, rfl, rfl, by decide +kernel, rfl, by decide +kernel, by decide +kernel⟩
theorem c_Lnested (T : Tx K mg) : C8.Cal P w K mg base 4 "_law_nested" (spNest K) [] := by
  obtain ⟨fd, F⟩ := f_Lnested T
  have c_Lcolumn := c_Lcolumn (P := P) (w := w) (base := base) T
  have c_Ldraw := c_Ldraw (P := P) (w := w) (base := base) T
  refine mkCal F (g_law_nested T) (F.bindsN fun _ _ _ _ _ _ us hl => match us, hl with | [_, _], _ => rfl) .nil sc_Lnested (fun vs H Q E h => ?_) (fun cdv A outer s H vs Q E hr h => ?_)
  · obtain ⟨G, p, n, lo, rfl, _⟩ := h
    rfl
  obtain ⟨G, p, n, lo, rfl, hP, hn, hlo, q⟩ := h
  have sl : sizeLine = 16777216 := rfl
  refine ⟨_, (pss_cons (ps_set (i := 2) sc_Lnested.nd rfl (Or.inl rfl) (C8.pe_c c_Lcolumn hr (by first | decide | omega) rfl (pa_cons (pv 0) (pa_cons (pv 1) pa_nil))))
    (pss_cons (ps_set (i := 3) sc_Lnested.nd rfl (Or.inl rfl) (pe_op op_add pe_int (C8.pe_c c_Ldraw hr (by first | decide | omega) rfl (pa_cons (pv 0) (pa_cons pe_int pa_nil)))))
    (pss_cons (ps_for PassesOwn.never rfl (pi_range1 (by rfl) (z_range T) (pa_cons (pv 3) pa_nil)) (pg_name (i := 4) sc_Lnested.nd rfl (Or.inl rfl)) (pss_one (ps_set (i := 2) sc_Lnested.nd rfl (Or.inl rfl) (pe_tup (pa_cons pe_str (pa_cons (pe_ix (ix_listK (K := K) rfl) (pe_ix (ix_listK (K := K) rfl) (pv 1) pe_int (fun _ _ => rfl)) (C8.pe_c c_Ldraw hr (by first | decide | omega) rfl (pa_cons (pv 0) (pa_cons pe_int pa_nil))) (fun _ _ => rfl)) (pa_cons (pe_tup (pa_cons (pv 2) pa_nil)) (pa_cons pe_bl pa_nil))))))))
    (C8.pss_cut (ps_if (PW.pt (pw_and (pt_cmpR op_eq (pv 3) pe_int (nomark _)) (pw_and1 (pt_cmpR op_eq (C8.pe_c c_Ldraw hr (by first | decide | omega) rfl (pa_cons (pv 0) (pa_cons pe_int pa_nil))) pe_int (nomark _))))) (pss_one (ps_set (i := 2) sc_Lnested.nd rfl (Or.inl rfl) (pe_tup (pa_cons pe_str (pa_cons (pe_ix (ix_listK (K := K) rfl) (pe_ix (ix_listK (K := K) rfl) (pv 1) pe_int (fun _ _ => rfl)) (C8.pe_c c_Ldraw hr (by first | decide | omega) rfl (pa_cons (pv 0) (pa_cons pe_int pa_nil))) (fun _ _ => rfl)) (pa_cons (pe_tup (pa_cons (pv 2) pa_nil)) (pa_cons pe_bl pa_nil))))))) pss_nil)
    (pss_one (ps_ret (pv 2))))))), ?_⟩
  refine ⟨_, rfl, _, rfl, G, p, n, lo, rfl, hP, by omega, hlo, fun G1 H1 v1 m1 s1 p1 hm1 hv1 => ?_⟩
  refine ⟨_, rfl, p, n + 3, 2, rfl, p1.pen, by omega, by decide, by decide, fun d H2 k2 P2 a2 b2 => ⟨_, _, rfl, rfl, ?_⟩⟩
  obtain ⟨s2, p2⟩ := p1.draw k2 P2
  have vl := val_len hv1
  refine ⟨_, rfl, 9 + d, rfl, by omega, by omega, ?_⟩
  refine for_range (lo := 0) (n := (9 + d).toNat) (fun i σ H' => ∃ (G' : Hp) (v : V) (m : Mt) (o4 : Option V), σ = [some (.ref p), some lo, some v, some (.int (9 + d)), o4] ∧ Step (some p) G H G' H' ∧ Ps K G' H' p (n + 4 + i) ∧ Lot G' lo ∧ MAt G' v m ∧ IsVal i m ∧ Wt (i + 2) m ∧ m.txt.length ≤ 22 + 12 * i)
    ⟨G1, v1, m1, none, rfl, s1.trans s2, p2.mono (by omega), hlo.same s1.gg, hm1, hv1, val_wt hv1 (by omega), by omega⟩ ?_ ?_
  · rintro i σ H' hi ⟨G', v, m, o4, rfl, st, ps, hlo', hm, hv, hw, hl⟩
    have hi10 : i < 10 := by omega
    have hlo2 := hlo'
    obtain ⟨la, a0, a1, a2', a3', n0, n1, n2, n3, rfl, hla, _, _, hl2, _, ⟨_, _, len2, _⟩, hok⟩ := hlo2
    refine ⟨_, rfl, la, _, 2, _, rfl, rfl, SqL.of (ps.gh _ _ hla), atI_nat (j := 2) rfl, _, rfl, p, _, 2, rfl, ps.pen, by omega, by decide, by decide, fun e H3 k3 P3 a3 b3 => ?_⟩
    obtain ⟨s3, p3⟩ := ps.draw k3 P3
    obtain ⟨x0, hx0, mx0⟩ := at_str (ns := n2) a3 (by omega)
    have ok0 : NameOk (S x0.cps.toList) := by rw [S_tl]; exact hok x0 (.inr (.inr (.inl mx0)))
    generalize x0.cps.toList = w0 at hx0 ok0
    refine ⟨a2', _, e, _, rfl, rfl, SqL.of (p3.gh _ _ hl2), hx0, _, rfl, by show 1 ≤ sizeLine; decide, fun t0 h0 => ⟨by show 4 ≤ sizeLine; decide, fun t ht => ?_⟩⟩
    obtain ⟨s7, p7⟩ := p3.new_ (o := .tup [v]) h0
    obtain ⟨s8, p8⟩ := p7.new_ (o := .tup [.str "function", .str (S w0), .ref t0, .bl false]) ht
    have k8 := s7.gg.trans s8.gg
    have l8 := ok0.nm.len
    refine ⟨_, .ref t, .mk .func w0 [m] false, _, rfl, ((st.trans s3).trans s7).trans s8, p8.mono (by omega), hlo'.same k8, .of (p := t0) (vs := [v]) upd_same (s8.gg _ _ upd_same) (.cons (hm.same k8) .nil), .fn ok0 (by simp) (by simp) (fun u hu => by rw [List.mem_singleton.mp hu]; exact hv), one_wt (.inl rfl) ok0 hw (by omega), ?_⟩
    rw [fn_txt]
    simp [TL.joinL]
    omega
  rintro σ H' ⟨G', v, m, o4, rfl, st, ps, hlo', hm, hv, hw, hl⟩
  have hd2 : (9 + d).toNat = 9 + d.toNat := by omega
  refine ⟨fun σ' H2 => ∃ (G2 : Hp) (v2 : V) (m2 : Mt), σ' = [some (.ref p), some lo, some v2, some (.int (9 + d)), o4] ∧ Step (some p) G H G2 H2 ∧ Ps K G2 H2 p (n + 30) ∧ MAt G2 v2 m2 ∧ Gd m2 ∧ Wt 12 m2, ?_, ?_⟩
  · have base_ : ∀ {Hx : Hp}, Step (some p) G H G' Hx → Ps K G' Hx p (n + 30) → ∃ (G2 : Hp) (v2 : V) (m2 : Mt), [some (V.ref p), some lo, some v, some (V.int (9 + d)), o4] = [some (.ref p), some lo, some v2, some (.int (9 + d)), o4] ∧ Step (some p) G H G2 Hx ∧ Ps K G2 Hx p (n + 30) ∧ MAt G2 v2 m2 ∧ Gd m2 ∧ Wt 12 m2 :=
      fun s' p' => ⟨G', v, m, rfl, s', p', hm, .val hv, hw.up (by omega)⟩
    refine ⟨_, rfl, rfl, _, rfl, ?_⟩
    refine ite2 (fun z => ?_) (fun _ => base_ st (ps.mono (by omega)))
    have z9 : 9 + d = 9 := V.int.inj (of_decide_eq_true z)
    refine ⟨_, rfl, p, _, 2, rfl, ps.pen, by omega, by decide, by decide, fun d3 H3 k3 P3 a3 b3 => ⟨rfl, _, rfl, ?_⟩⟩
    obtain ⟨s3, p3⟩ := ps.draw k3 P3
    refine ite2 (fun _ => ?_) (fun _ => base_ (st.trans s3) (p3.mono (by omega)))
    have hlo2 := hlo'
    obtain ⟨la, a0, a1, a2', a3', n0, n1, n2, n3, rfl, hla, _, _, _, hl3, ⟨_, _, _, len3⟩, hok⟩ := hlo2
    refine ⟨_, rfl, la, _, 3, _, rfl, rfl, SqL.of (p3.gh _ _ hla), atI_nat (j := 3) rfl, _, rfl, p, _, 2, rfl, p3.pen, by omega, by decide, by decide, fun e H4 k4 P4 a4 b4 => ?_⟩
    obtain ⟨s4, p4⟩ := p3.draw k4 P4
    obtain ⟨x0, hx0, mx0⟩ := at_str (ns := n3) a4 (by omega)
    have ok0 : NameOk (S x0.cps.toList) := by rw [S_tl]; exact hok x0 (.inr (.inr (.inr mx0)))
    generalize x0.cps.toList = w0 at hx0 ok0
    refine ⟨a3', _, e, _, rfl, rfl, SqL.of (p4.gh _ _ hl3), hx0, _, rfl, by show 1 ≤ sizeLine; decide, fun t0 h0 => ⟨by show 4 ≤ sizeLine; decide, fun t ht => ?_⟩⟩
    obtain ⟨s7, p7⟩ := p4.new_ (o := .tup [v]) h0
    obtain ⟨s8, p8⟩ := p7.new_ (o := .tup [.str "rule", .str (S w0), .ref t0, .bl false]) ht
    have k8 := s7.gg.trans s8.gg
    exact ⟨_, .ref t, .mk .rule w0 [m] false, rfl, (((st.trans s3).trans s4).trans s7).trans s8, p8.mono (by omega), .of (p := t0) (vs := [v]) upd_same (s8.gg _ _ upd_same) (.cons (hm.same k8) .nil), .rule ok0 (by simp) (fun u hu => by rw [List.mem_singleton.mp hu]; exact hv), (one_wt (j := 11) (.inr rfl) ok0 (hw.up (by omega)) (by omega)).up (by omega)⟩
  rintro σ' H2 ⟨G2, v2, m2, rfl, s', p', hm', hg', hw'⟩
  exact ⟨_, rfl, q G2 H2 v2 m2 s' p' hm' hg' hw'⟩
end Pf
namespace Bs
open PySem PySem.Spec PyProof.Rows L2 SX
def spLaw (K : PySem.W.Frag) : Sp := fun vs H Q _ => ∃ (a : Addr) (ns : List Int), vs = [.ref a] ∧ Fz K H a (ns.map V.int) ∧ ns.length ≤ 63 ∧ ∀ H' : Hp, Q (.bl true) H'
theorem rule8_wt {w : List Nat} {ts : List Mt} (h : NameOk (S w)) (h1 : 1 ≤ ts.length) (h3 : ts.length ≤ 3) (hs : ∀ t ∈ ts, IsVal 8 t) : Wt 12 (.mk .rule w ts false) := term_wt (.rule h h1 h3 hs)
theorem Same.both {G H : Hp} {q : Addr} {o : HO} (s : Same G H) : Same (upd G q o) (upd H q o) := fun b u e => by
  by_cases c : b = q
  · subst c; rw [upd_same] at e ⊢; exact e
  · rw [upd_ne c] at e ⊢; exact s b u e
end Bs
namespace Pf
open PySem PySem.Spec PyProof.Rows L2 Bs SX
variable {P : Program} {w : World} {K : PySem.W.Frag} {mg : Str → Option Value} {base : Heap}
local macro_rules | `(tactic| walk_at "no") => `(tactic| refine ite2 (fun c => absurd c (by simp)) (fun _ => ?_))
abbrev N_law : List Str := ["_law_script", "_law_pen_here", "_law_lot_here", "_law_models", "_law_value_here", "_law_told", "_law_turn", "_law_term_here", "_law_model", "_law_k"]
theorem sc_law : FnScope N_law ["_law_script"] (defScope s_law) := ⟨rfl, rfl, rfl, by decide +kernel, rfl, by decide +kernel, by decide +kernel⟩
theorem o_law (T : Tx K mg) {fd : FuncData} (F : FunD K d_law.2.name d_law.2.qual d_law.2.params d_law.2.body d_law.2.scope (d_law.2.dvs K) (d_law.2.kws K) (d_law.1 K) fd) : FnOk P w K mg base C8.CX0 39 (d_law.1 K) fd ["_law_script"] (spLaw K) := by
  have c_Lpen := c_Lpen (P := P) (w := w) (base := base) T
  have c_Llot := c_Llot (P := P) (w := w) (base := base) T
  have c_Lterm := c_Lterm (P := P) (w := w) (base := base) T
  have c_Lvalue := c_Lvalue (P := P) (w := w) (base := base) T
  have c_Lcolumn := c_Lcolumn (P := P) (w := w) (base := base) T
  have c_Lnested := c_Lnested (P := P) (w := w) (base := base) T
  have c_Lbuilt := c_Lbuilt (P := P) (w := w) (base := base) T 12
  have c_Lis := c_Lis (P := P) (w := w) (base := base) T 12
  have c_Ltext := c_Ltext (P := P) (w := w) (base := base) T 12
  have pe_g_Term : ∀ {X : Cx} {pos : Pos}, X.mg = mg → Gl X "Term" → PE X (.Name "Term" pos) (tC (.ref (CT K))) := fun h1 h2 => C8.pe_gc h2 ⟨_, by rw [h1]; exact g_Term T, rfl⟩
  obtain ⟨CRd, CMt⟩ := Hd.cmB_ok (ex_4 T)
  obtain ⟨rfd, RO, RB⟩ := o_read (P := P) (w := w) (base := base) T
  have RFn : FnR P w K mg base C8.CX0 37 (Hd.inRec "classmethod" "Term" "read" K) (spRead (CT K)) := (RO.raw RB .nil).imp fun vs H Q E h => by rw [List.append_nil]; exact h
  refine ok0 (k := 38) F sc_law (fun vs H Q E h => ?_) (fun cdv A outer s H vs Q E hr h => ?_)
  · obtain ⟨a, ns, rfl, _⟩ := h
    rfl
  obtain ⟨a, ns, rfl, hS, h63, q⟩ := h
  have sl : sizeLine = 16777216 := rfl
  have eE : ("" : Str) = S [] := by decide +kernel
  refine ⟨_, (pss_cons (ps_set (i := 1) sc_law.nd rfl (Or.inr rfl) (C8.pe_c c_Lpen hr (by first | decide | omega) rfl (pa_cons (pv 0) pa_nil)))
    (pss_cons (ps_set (i := 2) sc_law.nd rfl (Or.inr rfl) (C8.pe_c c_Llot hr (by first | decide | omega) rfl (pa_cons (pv 1) pa_nil)))
    (pss_cons (ps_setLc (i := 3) (own := [("_law_k", 9)]) rfl sc_law.nd rfl rfl (sw_true rfl rfl rfl (by decide +kernel)) (pi_range1 (by rfl) (z_range T) (pa_cons pe_int pa_nil)) (blkOk_by (N := N_law) (sc := defScope s_law) (by decide +kernel)) (fun _ _ _ _ _ => (pg_name (i := 9) sc_law.nd rfl (Or.inl rfl))) (fun _ _ _ _ _ => pts_nil) (fun _ _ _ _ _ => (C8.pe_c c_Lterm hr (by first | decide | omega) rfl (pa_cons (pv 1) (pa_cons (pv 2) pa_nil)))))
    (pss_cons (ps_set (i := 3) sc_law.nd rfl (Or.inl rfl) (pe_op op_cat (pv 3) (pe_lst (pa_cons (pe_tup (pa_cons pe_str (pa_cons pe_str (pa_cons (pe_tup pa_nil) (pa_cons pe_bl pa_nil))))) (pa_cons (pe_tup (pa_cons pe_str (pa_cons (pe_ix (ix_listK (K := K) rfl) (pe_ix (ix_listK (K := K) rfl) (pv 2) pe_int (fun _ _ => rfl)) pe_int (fun _ _ => rfl)) (pa_cons (pe_tup pa_nil) (pa_cons pe_bl pa_nil))))) pa_nil)))))
    (pss_cons (ps_set (i := 4) sc_law.nd rfl (Or.inl rfl) (C8.pe_c c_Lvalue hr (by first | decide | omega) rfl (pa_cons (pv 1) (pa_cons (pv 2) (pa_cons pe_int pa_nil)))))
    (pss_cons (ps_expr (pe_bm PySem.F.plainAttrs_list PySem.F.slot_list_append PySem.F.type_list_append mt_append (pv 3) (pa_cons (pe_tup (pa_cons pe_str (pa_cons (pe_ix (ix_listK (K := K) rfl) (pe_ix (ix_listK (K := K) rfl) (pv 2) pe_int (fun _ _ => rfl)) pe_int (fun _ _ => rfl)) (pa_cons (pe_tup (pa_cons (pv 4) (pa_cons (C8.pe_c c_Lcolumn hr (by first | decide | omega) rfl (pa_cons (pv 1) (pa_cons (pv 2) pa_nil))) (pa_cons (pv 4) pa_nil)))) (pa_cons pe_bl pa_nil))))) pa_nil)))
    (pss_cons (ps_setLc (i := 5) (own := [("_law_model", 8)]) rfl sc_law.nd rfl rfl (sw_true rfl rfl rfl (by decide +kernel)) (pi_listK (K := K) rfl (pv 3)) (blkOk_by (N := N_law) (sc := defScope s_law) (by decide +kernel)) (fun _ _ _ _ _ => (pg_name (i := 8) sc_law.nd rfl (Or.inl rfl))) (fun _ _ _ _ _ => pts_nil) (fun _ _ _ _ _ => (ClX.pe_cmeth (E := C8.E0) (pe_g_Term rfl rfl) CRd CMt RFn (hr.mono (by decide)) C8.pass0 (pa_cons (C8.pe_c c_Ltext hr (by first | decide | omega) rfl (pa_cons (pv 8) pa_nil)) pa_nil))))
    (pss_cons (ps_for PassesOwn.never rfl (pi_zip (by rfl) (z_zip T) (pa_cons (pv 5) (pa_cons (pv 3) pa_nil))) (pg_tup rfl (pgs_cons (pg_name (i := 7) sc_law.nd rfl (Or.inl rfl)) (pgs_cons (pg_name (i := 8) sc_law.nd rfl (Or.inl rfl)) pgs_nil))) (pss_cons (ps_if (PW.pt (pw_or (pt_not (pt_val (C8.pe_c c_Lis hr (by first | decide | omega) rfl (pa_cons (pv 7) (pa_cons (pv 8) pa_nil))))) (pw_or1 (pt_not (pt_val (C8.pe_c c_Lis hr (by first | decide | omega) rfl (pa_cons (ClX.pe_cmeth (E := C8.E0) (pe_g_Term rfl rfl) CRd CMt RFn (hr.mono (by decide)) C8.pass0 (pa_cons (pe_fldK (K := K) rfl (pv 7) (by rfl)) pa_nil)) (pa_cons (pv 8) pa_nil)))))))) (pss_one (ps_ret pe_bl)) pss_nil)
    (pss_one (ps_if (PW.pt (pw_or (pt_cmpR (op_neO (own_eq T rfl rfl rfl rfl rfl) (hr.mono (by omega))) (pv 7) (C8.pe_c c_Lbuilt hr (by first | decide | omega) rfl (pa_cons (pv 8) pa_nil)) (nomark _)) (pw_or1 (pt_not (pt_cmpR (op_eqO (own_eq T rfl rfl rfl rfl rfl) (hr.mono (by omega))) (C8.pe_c c_Lbuilt hr (by first | decide | omega) rfl (pa_cons (pv 8) pa_nil)) (pv 7) (nomark _)))))) (pss_one (ps_ret pe_bl)) pss_nil))))
    (pss_cons (ps_for PassesOwn.never rfl (pi_range1 (by rfl) (z_range T) (pa_cons pe_int pa_nil)) (pg_name (i := 6) sc_law.nd rfl (Or.inl rfl)) (pss_cons (ps_set (i := 8) sc_law.nd rfl (Or.inl rfl) (C8.pe_c c_Lnested hr (by first | decide | omega) rfl (pa_cons (pv 1) (pa_cons (pv 2) pa_nil))))
    (pss_one (ps_if (pt_not (pt_val (C8.pe_c c_Lis hr (by first | decide | omega) rfl (pa_cons (ClX.pe_cmeth (E := C8.E0) (pe_g_Term rfl rfl) CRd CMt RFn (hr.mono (by decide)) C8.pass0 (pa_cons (C8.pe_c c_Ltext hr (by first | decide | omega) rfl (pa_cons (pv 8) pa_nil)) pa_nil)) (pa_cons (pv 8) pa_nil))))) (pss_one (ps_ret pe_bl)) pss_nil))))
    (pss_one (ps_ret pe_bl))))))))))), ?_⟩
  refine ⟨_, rfl, a, ns, rfl, hS, h63, fun p H1 hp k1 P1 => ?_⟩
  have p1 : Ps K (fun _ => none) H1 p 0 := ⟨fun _ _ e => (by cases e), rfl, P1⟩
  refine ⟨_, rfl, (fun _ => none), p, 0, rfl, p1, by omega, fun G2 H2 lo s2 p2 hlo => ?_⟩
  refine ⟨6, rfl, by omega, by omega, fun D hD => ?_⟩
  have hDp := p2.pen.ne hD
  have gD2 : G2 D = none := p2.gh.free hD
  have sD := (Step.refl (p := none) p2.gh).loc (o := .lst []) hD gD2
  refine lc_range (lo := 0) (n := (6 : Int).toNat) (fun i H' => ∃ (G' : Hp) (vs : List V) (ms : List Mt), Step (some p) G2 H2 G' H' ∧ Ps K G' H' p (16 + 140 * i) ∧ G' D = none ∧ H' D = some (.lst vs) ∧ ms.length = i ∧ All2 (MAt G') vs ms ∧ ∀ m ∈ ms, IsTerm m)
    ⟨G2, [], [], sD.some_, (p2.stepN sD).mono (by omega), gD2, upd_same, rfl, .nil, fun m hm => by cases hm⟩ ?_ ?_
  · rintro i H' hi ⟨G', vs, ms, st, ps, g', hL, hlen, hall, hms⟩
    have hi6 : i < 6 := hi
    refine ⟨rfl, ?_⟩
    unfold tYes
    refine iteT ⟨_, rfl, _, rfl, G', p, 16 + 140 * i, lo, rfl, ps, by omega, hlo.same st.gg, fun G3 H3 v m s3 p3 hm hv => ?_⟩
    have hL3 := s3.kpc _ _ hL hDp
    have g3 : G3 D = none := s3.out g' (by rw [hL]; exact fun z => by cases z)
    have st3 := (st.trans s3).loc (o := .lst (vs ++ [v])) hD g3
    refine ⟨_, hL3, ?_, G3, vs ++ [v], ms ++ [m], st3, ⟨st3.gh, p3.out, (p3.pen.mono (by omega)).put hL3⟩, g3, upd_same, ?_, (hall.mono fun _ _ r => r.same s3.gg).app (.cons hm .nil), ?_⟩
    · have := hall.len
      omega
    · rw [List.length_append, hlen]; rfl
    · intro x hx
      rcases List.mem_append.mp hx with hx | hx
      · exact hms x hx
      · rw [List.mem_singleton.mp hx]; exact hv
  rintro H3 ⟨G3, vs, ms, st, ps, g3, hL, hlen, hall, hms⟩
  have hlen6 : ms.length = 6 := hlen
  have hvl := hall.len
  have hlo3 := hlo.same st.gg
  have hlo3' := hlo3
  obtain ⟨la, a0, a1, a2, a3, n0, n1, n2, n3, rfl, hla, hl0, _, _, hl3, ⟨len0, _, _, len3⟩, hok⟩ := hlo3
  obtain ⟨x0, hx0, mx0⟩ := at_str (ns := n0) (k := 1) (by omega) (by omega)
  have ok0 : NameOk (S x0.cps.toList) := by rw [S_tl]; exact hok x0 (.inl mx0)
  generalize x0.cps.toList = w0 at hx0 ok0
  refine ⟨_, rfl, by show 0 ≤ sizeLine; decide, fun t1 h1 => ⟨by show 4 ≤ sizeLine; decide, fun t2 h2 => ?_⟩⟩
  obtain ⟨u1, r1⟩ := ps.new_ (o := .tup []) h1
  obtain ⟨u2, r2⟩ := r1.new_ (o := .tup [.str "zero", .str "", .ref t1, .bl false]) h2
  have k12 := u1.gg.trans u2.gg
  refine ⟨_, rfl, la, _, 0, _, rfl, rfl, SqL.of (r2.gh _ _ (k12 _ _ hla)), atI_nat (j := 0) rfl, a0, _, 1, _, rfl, rfl, SqL.of (r2.gh _ _ (k12 _ _ hl0)), hx0, by show 0 ≤ sizeLine; decide, fun t3 h3 => ⟨by show 4 ≤ sizeLine; decide, fun t4 h4 => ⟨by show 2 ≤ sizeLine; decide, fun q1 hq1 => ?_⟩⟩⟩
  obtain ⟨u3, r3⟩ := r2.new_ (o := .tup []) h3
  obtain ⟨u4, r4⟩ := r3.new_ (o := .tup [.str "row", .str (S w0), .ref t3, .bl true]) h4
  have u14 := ((u1.trans u2).trans u3).trans u4
  have hL4 := u14.kpc _ _ hL hDp
  have g4 := u14.out g3 (by rw [hL]; exact fun z => by cases z)
  have n1 : D ≠ q1 := fun e => by rw [← e, hL4] at hq1; cases hq1
  have gq1 := r4.gh.free hq1
  have uA := (Step.refl (p := none) r4.gh).loc (o := .lst [.ref t2, .ref t4]) hq1 gq1
  refine ⟨D, q1, vs, _, rfl, rfl, by rw [upd_ne n1]; exact hL4, upd_same, by show vs.length + 2 ≤ sizeLine; omega, fun D2 hD2 => ?_⟩
  have gD2' := uA.gh.free hD2
  have uB := uA.loc (o := .lst (vs ++ [.ref t2, .ref t4])) (uA.free hD2) gD2'
  have pB := r4.stepN uB
  have k3 := u14.gg
  have hM0 : All2 (MAt (upd (upd (upd (upd G3 t1 (.tup [])) t2 (.tup [.str "zero", .str "", .ref t1, .bl false])) t3 (.tup [])) t4 (.tup [.str "row", .str (S w0), .ref t3, .bl true]))) (vs ++ [.ref t2, .ref t4]) (ms ++ [.mk .zero [] [] false, .mk .row w0 [] true]) :=
    (hall.mono fun _ _ r => r.same k3).app (.cons (.of (p := t1) (vs := []) (by rw [← eE]; exact u4.gg _ _ (u3.gg _ _ upd_same)) (u4.gg _ _ (u3.gg _ _ (u2.gg _ _ upd_same))) .nil) (.cons (.of (p := t3) (vs := []) upd_same (u4.gg _ _ upd_same) .nil) .nil))
  have hlo7 := hlo3'.same k3
  have hl3' := k3 _ _ hl3
  have hla' := k3 _ _ hla
  have hDl : (upd (upd (upd (upd (upd (upd H3 t1 (.tup [])) t2 (.tup [.str "zero", .str "", .ref t1, .bl false])) t3 (.tup [])) t4 (.tup [.str "row", .str (S w0), .ref t3, .bl true])) q1 (.lst [.ref t2, .ref t4])) D2 (.lst (vs ++ [.ref t2, .ref t4]))) D2 = some (.lst (vs ++ [.ref t2, .ref t4])) := upd_same
  have hD2p := (r4.stepN uA).pen.ne hD2
  generalize (upd (upd (upd (upd G3 t1 (.tup [])) t2 (.tup [.str "zero", .str "", .ref t1, .bl false])) t3 (.tup [])) t4 (.tup [.str "row", .str (S w0), .ref t3, .bl true])) = G7 at pB hM0 hlo7 hl3' hla' gD2'
  generalize (upd (upd (upd (upd (upd (upd H3 t1 (.tup [])) t2 (.tup [.str "zero", .str "", .ref t1, .bl false])) t3 (.tup [])) t4 (.tup [.str "row", .str (S w0), .ref t3, .bl true])) q1 (.lst [.ref t2, .ref t4])) D2 (.lst (vs ++ [.ref t2, .ref t4]))) = H7 at pB hDl ⊢
  refine ⟨_, rfl, _, rfl, G7, p, _, .ref la, 1, rfl, pB, by omega, by omega, hlo7, fun G8 H8 v8 m8 s8 p8 hm8 hv8 => ?_⟩
  have hL8 := s8.kpc _ _ hDl hD2p
  have g8 := s8.out gD2' (by rw [hDl]; exact fun z => by cases z)
  obtain ⟨y0, hy0, my0⟩ := at_str (ns := n3) (k := 0) (by omega) (by omega)
  have ok1 : NameOk (S y0.cps.toList) := by rw [S_tl]; exact hok y0 (.inr (.inr (.inr my0)))
  generalize y0.cps.toList = w1 at hy0 ok1
  refine ⟨_, rfl, .inl ⟨rfl, _, SqL.of hL8⟩, _, rfl, la, _, 3, _, rfl, rfl, SqL.of (s8.gh _ _ (s8.gg _ _ hla')), atI_nat (j := 3) rfl, a3, _, 0, _, rfl, rfl, SqL.of (s8.gh _ _ (s8.gg _ _ hl3')), hy0, _, rfl, _, rfl, _, rfl, G8, p, _, .ref la, rfl, p8, by omega, hlo7.same s8.gg, fun G9 H9 v9 m9 s9 p9 hm9 hv9 => ?_⟩
  refine ⟨_, rfl, by show 3 ≤ sizeLine; decide, fun t5 h5 => ⟨by show 4 ≤ sizeLine; decide, fun t6 h6 => ?_⟩⟩
  obtain ⟨u5, r5⟩ := p9.new_ (o := .tup [v8, v9, v8]) h5
  obtain ⟨u6, r6⟩ := r5.new_ (o := .tup [.str "rule", .str (S w1), .ref t5, .bl false]) h6
  have u56 := u5.trans u6
  have hL9 := s9.kpc _ _ hL8 hD2p
  have g9 := s9.out g8 (by rw [hL8]; exact fun z => by cases z)
  have hL10 := u56.kpc _ _ hL9 hD2p
  have g10 := u56.out g9 (by rw [hL9]; exact fun z => by cases z)
  refine ⟨D2, _, _, rfl, rfl, hL10, by rw [List.length_append]; show vs.length + 2 < sizeLine; omega, ?_⟩
  have k10 := (s8.gg.trans s9.gg).trans u56.gg
  have vals : ∀ u ∈ [m8, m9, m8], IsVal 8 u := fun u hu => by
    simp only [List.mem_cons, List.mem_nil_iff, or_false] at hu
    rcases hu with rfl | rfl | rfl
    · exact hv8
    · exact hv9.up (by omega)
    · exact hv8
  have kf : Same (upd (upd G9 t5 (.tup [v8, v9, v8])) t6 (.tup [.str "rule", .str (S w1), .ref t5, .bl false])) (upd (upd (upd G9 t5 (.tup [v8, v9, v8])) t6 (.tup [.str "rule", .str (S w1), .ref t5, .bl false])) D2 (.lst (vs ++ [.ref t2, .ref t4] ++ [.ref t6]))) := Same.new (Same.refl _) g10
  have hm8' := hm8.same ((s9.gg.trans u56.gg).trans kf)
  have hm9' := hm9.same (u56.gg.trans kf)
  have hM : All2 (MAt (upd (upd (upd G9 t5 (.tup [v8, v9, v8])) t6 (.tup [.str "rule", .str (S w1), .ref t5, .bl false])) D2 (.lst (vs ++ [.ref t2, .ref t4] ++ [.ref t6])))) (vs ++ [.ref t2, .ref t4] ++ [.ref t6]) (ms ++ [.mk .zero [] [] false, .mk .row w0 [] true] ++ [.mk .rule w1 [m8, m9, m8] false]) :=
    (hM0.mono fun _ _ r => r.same (k10.trans kf)).app (.cons (.of (p := t5) (vs := [v8, v9, v8]) (kf _ _ upd_same) (kf _ _ (u6.gg _ _ upd_same)) (.cons hm8' (.cons hm9' (.cons hm8' .nil)))) .nil)
  have pF : Ps K (upd (upd (upd G9 t5 (.tup [v8, v9, v8])) t6 (.tup [.str "rule", .str (S w1), .ref t5, .bl false])) D2 (.lst (vs ++ [.ref t2, .ref t4] ++ [.ref t6]))) (upd (upd (upd H9 t5 (.tup [v8, v9, v8])) t6 (.tup [.str "rule", .str (S w1), .ref t5, .bl false])) D2 (.lst (vs ++ [.ref t2, .ref t4] ++ [.ref t6]))) p 2000 :=
    ⟨Same.both r6.gh, by rw [upd_ne hD2p.symm]; exact r6.out, (r6.pen.mono (by omega)).put hL10⟩
  have hloF := (hlo7.same k10).same kf
  have hDl : (upd (upd (upd G9 t5 (.tup [v8, v9, v8])) t6 (.tup [.str "rule", .str (S w1), .ref t5, .bl false])) D2 (.lst (vs ++ [.ref t2, .ref t4] ++ [.ref t6]))) D2 = some (.lst (vs ++ [.ref t2, .ref t4] ++ [.ref t6])) := upd_same
  have hgw : ∀ m ∈ ms ++ [.mk .zero [] [] false, .mk .row w0 [] true] ++ [.mk .rule w1 [m8, m9, m8] false], Gd m ∧ Wt 12 m := fun m hm => by
    rcases List.mem_append.mp hm with hm | hm
    · rcases List.mem_append.mp hm with hm | hm
      · exact ⟨(hms m hm).gd, term_wt (hms m hm)⟩
      · simp only [List.mem_cons, List.mem_nil_iff, or_false] at hm
        rcases hm with rfl | rfl
        · exact ⟨.zero, term_wt .zero⟩
        · exact ⟨.row (.mk ok0), term_wt (.row (.mk ok0))⟩
    · rw [List.mem_singleton.mp hm]
      exact ⟨.rule ok1 (by simp) vals, rule8_wt ok1 (by simp) (by simp) vals⟩
  have hlM : (ms ++ [Mt.mk .zero [] [] false, Mt.mk .row w0 [] true] ++ [Mt.mk .rule w1 [m8, m9, m8] false]).length = 9 := by simp [hlen6]
  generalize (upd (upd (upd G9 t5 (.tup [v8, v9, v8])) t6 (.tup [.str "rule", .str (S w1), .ref t5, .bl false])) D2 (.lst (vs ++ [.ref t2, .ref t4] ++ [.ref t6]))) = G at hM pF hloF hDl
  generalize (upd (upd (upd H9 t5 (.tup [v8, v9, v8])) t6 (.tup [.str "rule", .str (S w1), .ref t5, .bl false])) D2 (.lst (vs ++ [.ref t2, .ref t4] ++ [.ref t6]))) = HF at pF ⊢
  generalize vs ++ [.ref t2, .ref t4] ++ [.ref t6] = mv at hM hDl
  generalize ms ++ [.mk .zero [] [] false, .mk .row w0 [] true] ++ [.mk .rule w1 [m8, m9, m8] false] = mF at hM hgw hlM
  have C0 := cls_Term_ T
  have I0 := Hd.insB_ok (ex_0 T)
  have lM := hM.len
  -- told
  refine ⟨_, rfl, D2, rfl, ⟨_, SqL.of (pF.gh _ _ hDl)⟩, fun D3 hD3 => ?_⟩
  have gD3 := pF.gh.free hD3
  refine lc_list (K := K) (a := D2) (xs := mv) (fun i H' => ∃ (G' : Hp) (xs : List V), Step none G HF G' H' ∧ G' D3 = none ∧ H' D3 = some (.lst xs) ∧ All2 (TAt (CT K) G') xs (mF.take i)) ⟨G, [], (Step.refl pF.gh).loc hD3 gD3, gD3, upd_same, .nil⟩ ?_ ?_ ?_
  · rintro i H' _ ⟨G', xs, st, _⟩
    exact SqL.of (st.gh _ _ (st.gg _ _ hDl))
  · rintro i x H' hx ⟨G', xs, st, g', hL, hall⟩
    obtain ⟨t, ht, mt⟩ := get_pair lM hx
    obtain ⟨gd, wt⟩ := hgw t mt
    refine ⟨rfl, ?_⟩
    unfold tYes
    refine iteT ⟨rfl, _, rfl, G', t, x, rfl, st.gh, (hM.get hx ht).same st.gg, wt, fun H2 s2 => ⟨_, rfl, G', t, rfl, gd, wt, s2.gh, fun G3 H3 y s3 hy => ⟨_, s3.same _ _ (s2.same _ _ hL), ?_, G3, xs ++ [.ref y], ?_, ?_, upd_same, ?_⟩⟩⟩
    · have := hall.len
      rw [List.length_take] at this
      omega
    · exact ((st.trans s2).trans s3).loc hD3 (s3.out g' (by rw [s2.same _ _ hL]; exact fun z => by cases z))
    · exact s3.out g' (by rw [s2.same _ _ hL]; exact fun z => by cases z)
    · rw [take_one ht]
      exact (hall.mono fun _ _ r => r.same s3.gg).app (.cons hy .nil)
  rintro HT ⟨GT, tv, st, gT, hLT, hall⟩
  rw [lM, List.take_length] at hall
  have lT := hall.len
  have pT := pF.stepN st
  refine ⟨_, rfl, _, rfl, D3, D2, tv, mv, rfl, SqL.of hLT, SqL.of (st.gh _ _ (st.gg _ _ hDl)), ?_⟩
  refine RZ.for_zipL (K := K) (a := D3) (b := D2) (xs := tv) (ys := mv) (lT.trans lM.symm) (fun i σ H1 => ∃ (G1 : Hp) (o6 o7 o8 o9 : Option V), σ = [some (.ref a), some (.ref p), some (.ref la), some (.ref D2), some v8, some (.ref D3), o6, o7, o8, o9] ∧ Step none GT HT G1 H1) ⟨GT, _, _, _, _, rfl, Step.refl st.gh⟩ ?_ ?_ ?_
  · rintro i σ H1 ⟨G1, o6, o7, o8, o9, rfl, s1⟩
    exact ⟨SqL.of (s1.same _ _ hLT), SqL.of (s1.gh _ _ (s1.gg _ _ (st.gg _ _ hDl)))⟩
  · rintro i x z Z σ H1 hx hz ⟨G1, o6, o7, o8, o9, rfl, s1⟩ hZ
    obtain ⟨m, hm, mm⟩ := get_pair lM hz
    obtain ⟨gd, wt⟩ := hgw m mm
    have s2 := s1.loc (o := .tup [x, z]) (s1.free hZ) (s1.gh.free hZ)
    have hxT := (hall.get hx hm).same s1.gg
    have hzM := (hM.get hz hm).same (st.gg.trans s1.gg)
    obtain ⟨a1, dx1, l1, so1, w1', ts1, b1, rfl, _, ha1⟩ := hxT.obj
    refine ⟨Z, _, rfl, SqT.of upd_same, rfl, _, _, rfl, _, _, rfl, rfl, ?_⟩
    refine ⟨_, rfl, _, rfl, G1, m, .ref a1, z, rfl, s2.gh, hxT, hzM, wt, fun H3 s3 => ⟨true, rfl, ?_⟩⟩
    walk_at "no"
    refine ⟨rfl, _, rfl, a1, CT K, dx1, _, _, rfl, s3.gh _ _ ha1, C0, noat_Term_text T, tf_text, .str (S m.txt), rfl, G1, m, rfl, gd, wt, s3.gh, fun G4 H4 y s4 hy => ⟨_, rfl, G4, m, .ref y, z, rfl, s4.gh, hy, hzM.same s4.gg, wt, fun H5 s5 => ⟨true, rfl, ?_⟩⟩⟩
    walk_at "no"
    refine ⟨_, rfl, _, rfl, G4, m, z, rfl, s5.gh, hzM.same s4.gg, wt, fun G6 H6 y2 s6 hy2 => ?_⟩
    have k6 := s4.gg.trans s6.gg
    obtain ⟨b2, dx2, l2, so2, w2, ts2, c2, e2, _, ha2⟩ := hy2.obj
    cases e2
    refine ⟨a1, dx1, _, .ref (CT K), true, rfl, s6.gh _ _ (k6 _ _ ha1), .base (.ins (s6.gh _ _ ha2) C0 I0.ha I0.hn I0.htk I0.hm), I0.nf, ⟨G6, m, s6.gh, hxT.same k6, .inl ⟨m, hy2, (decide_eq_true rfl).symm⟩⟩, _, rfl, ?_⟩
    walk_at "no"
    refine ⟨_, rfl, G6, m, z, rfl, s6.gh, hzM.same k6, wt, fun G7 H7 y3 s7 hy3 => ?_⟩
    have k7 := k6.trans s7.gg
    obtain ⟨b3, dx3, l3, so3, w3, ts3, c3, e3, _, ha3⟩ := hy3.obj
    cases e3
    refine ⟨_, rfl, y3, dx3, _, .ref (CT K), true, rfl, s7.gh _ _ ha3, .base (.ins (s7.gh _ _ (k7 _ _ ha1)) C0 I0.ha I0.hn I0.htk I0.hm), I0.nf, ⟨G7, m, s7.gh, hy3, .inl ⟨m, hxT.same k7, (decide_eq_true rfl).symm⟩⟩, _, rfl, ?_⟩
    walk_at "no"
    exact ⟨G7, _, _, _, _, rfl, ((((s2.trans s3).trans s4).trans s5).trans s6).trans s7⟩
  rintro σ H1 ⟨G1, o6, o7, o8, o9, rfl, s1⟩
  have p1 := pT.stepN s1
  have lo1 := (hloF.same st.gg).same s1.gg
  refine ⟨2, rfl, by omega, by omega, ?_⟩
  refine for_range (lo := 0) (n := (2 : Int).toNat) (fun i σ H' => ∃ (G' : Hp) (o6 o7 o8 o9 : Option V), σ = [some (.ref a), some (.ref p), some (.ref la), some (.ref D2), some v8, some (.ref D3), o6, o7, o8, o9] ∧ Ps K G' H' p (2000 + 30 * i) ∧ Lot G' (.ref la))
    ⟨G1, _, _, _, _, rfl, p1.mono (by omega), lo1⟩ ?_ ?_
  · rintro i σ H' hi ⟨G', o6, o7, o8, o9, rfl, ps, lo'⟩
    have hi2 : i < 2 := hi
    refine ⟨_, rfl, _, rfl, G', p, _, .ref la, rfl, ps, by omega, lo', fun G3 H3 v m s3 p3 hm hg hw => ?_⟩
    refine ⟨rfl, _, rfl, G3, m, v, rfl, p3.gh, hm, hw, fun H4 s4 => ⟨.str (S m.txt), rfl, G3, m, rfl, hg, hw, s4.gh, fun G5 H5 y s5 hy => ⟨_, rfl, G5, m, .ref y, v, rfl, s5.gh, hy, hm.same s5.gg, hw, fun H6 s6 => ⟨true, rfl, ?_⟩⟩⟩⟩
    walk_at "no"
    exact ⟨G5, _, _, _, _, rfl, ((p3.stepN ((s4.trans s5).trans s6))).mono (by omega), (lo'.same s3.gg).same s5.gg⟩
  rintro σ H' _
  exact q H'
end Pf
namespace Pf
open PySem PySem.Spec PyProof.Rows L2
abbrev R : PySem.W.OpenRow := PySem.W.OpenLaw.row PySem.Challenge.rw_splitplans_k04_terms_read
abbrev hk : PySem.W.Hook := Hd.hook 5 fa ex defs
def ob (s : PySem.W.SharedT) : Hd.Al := Hd.atHeap 5 fa ex defs (HandSHeadRun.getT s)
theorem ob_eq (s : PySem.W.SharedT) : ob s = hk.obs s.abs := Hd.at_eq (HandSHeadRun.getT_eq s)
theorem run (w : World) : HandSHeadRun.RunEq R (PySem.W.view R.prog [41]) hk ob 6000 looseN w := by
  intro os
  kernel_rfl
end Pf
open PySem PySem.W PySem.Calls PyProof.Rows
theorem PySem.Challenge.cw_splitplans_k04_terms_read_holds : PySem.Challenge.rw_splitplans_k04_terms_read.Holds := by
  w_on; o_law
  refine HandSHeadRun.head_any (r := OpenLaw.row PySem.Challenge.rw_splitplans_k04_terms_read) (q := view (OpenLaw.row PySem.Challenge.rw_splitplans_k04_terms_read).prog [41]) (H := Pf.hk) (ob := Pf.ob) (M := 6000) (loose := Pf.looseN) (d := HandSHeadRun.topDef (OpenLaw.row PySem.Challenge.rw_splitplans_k04_terms_read).prog 41) (kwd := []) Pf.ob_eq
    (by kernel_rfl) (fun s => by kernel_rfl) Pf.run (by kernel_rfl) (by kernel_rfl) (by kernel_rfl) (by rfl) (by first | assumption | decide +kernel) (by decide +kernel) ⟨rfl, rfl, rfl, rfl, rfl, by decide +kernel⟩ ?hw ?hc
  case hw => w_witness2
  case hc =>
    refine L2.walk_ofE (l := PySem.Challenge.rw_splitplans_k04_terms_read) (n := 63) (k := 39) (x := "_law_script") (CX := C8.CX0) rfl (by decide) (by kernel_rfl) ⟨rfl, by decide, by decide⟩ ?F (fun _ _ _ _ z => z)
    intro w mg fa h Y G hmg0
    obtain ⟨K, KX, c⟩ := Y
    have hmg : mg ("law" : PySem.Str) = some (.ref fa) := by
      have e : (HandSHeadRun.topDef (OpenLaw.row PySem.Challenge.rw_splitplans_k04_terms_read).prog 41).name = ("law" : PySem.Str) := by kernel_rfl
      rw [← e]
      exact hmg0
    have T : Pf.Tx K mg := ⟨c, fun x hx => He.glo_ok KX G (c.fact hx), fun x hx => He.free_ok KX G (c.fact hx), fun x i hx => He.int_ok KX G (c.fact hx), fun x z hx => He.str_ok KX G (c.fact hx)⟩
    have e := hmg.symm.trans (Pf.g_law T)
    cases e
    obtain ⟨fd, F⟩ := Pf.f_law T
    have b := L2.FunD.bindsA (ps := ["_law_script"]) F fun _ _ _ _ _ _ us hl => match us, hl with | [_], _ => rfl
    exact ⟨K, fd, Bs.spLaw K, KX, fun s v => b s [v] rfl, fun H a ns hl hO hS => ⟨a, ns, rfl, Bs.Fz.only hO hS, hl, fun _ => rfl⟩, fun base _ _ => Pf.o_law T F⟩
