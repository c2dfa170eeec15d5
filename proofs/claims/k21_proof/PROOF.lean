import PyProof.Rows.All
import Wide.All
import OpenK.AllK
import Wide.FinOn
import KE.KStateDown
import KE.DataMinMax
import KE.DatumOrd
import HandS.SortKw
import HandS.ForMost
import HandS.Property
import HandS.MakeKw
import HandS.FStr
import HandS.Star
import HandS.OwnEq
import HandS.IsInst
import HandS.Codes
import HandS.More
import HandS.Flow
import HandS.RaiseMore
import HandS.Defaults
import HandS.Style
import HandS.Conv
import HandS.Small
import HandS.Zip
import HandS.Wide
import HandS.Exc
import HandS.WordsExc
import HandS.Head0
import HandS.Head1
import HandS.Head2
import HandS.HeadEnd
import HandS.HeadHook1
import HandS.HeadHook2
import HandS.ClsMeth
import HandS.MakeKwOnly
import HandS.Strs
import HandS.NoneIn
import HandS.Deep
import HandS.DictComp
import HandS.ListItems
import PySem.Challenge.RW_splitplans_k21_steps_with_two_inputs
import KE.KCallOwn
import KE.GoesZip
import KE.GoesMore
import HandS.Zip0
import HandS.GenList
import HandS.GenYield
import PyProof.ReprLen
import PyProof.Rows.NestShow
import KE.KParD
import HandS.TupSets
import OpenK.KMeth
import OpenK.KMore
set_option Elab.async false
set_option linter.all false
set_option maxRecDepth 100000
set_option maxHeartbeats 0
/-! ## the head: a Hook that tells every def by its own place in the written part -/
namespace Hd
open PySem PySem.Spec PyProof.Rows L2
abbrev Dn : Type := (PySem.W.Frag → Addr) × He.DefD
def inRec (kind : String) (c m : Str) (K : PySem.W.Frag) : Addr := match PySem.W.recIn K (He.ma K (He.ga K c) m) kind with
  | some (.ref g :: _) => g
  | _ => 0
def dG (x : Str) (st : Stmt) (dfl : List He.Dv) (kw : List (Str × He.Dv)) : Dn := (fun K => He.ga K x, ⟨(x, none), x, x, defArgs st, defBody st, defScope st, dfl, kw⟩)
def dM (c m q : Str) (st : Stmt) (dfl : List He.Dv) (kw : List (Str × He.Dv)) : Dn := (fun K => He.ma K (He.ga K c) m, ⟨(c, some m), m, q, defArgs st, defBody st, defScope st, dfl, kw⟩)
def dR (kind : String) (c m q : Str) (st : Stmt) (dfl : List He.Dv) (kw : List (Str × He.Dv)) : Dn := (fun K => inRec kind c m K, ⟨(c, some m), m, q, defArgs st, defBody st, defScope st, dfl, kw⟩)
/-- the parts of the function object at an address that a def's text fixes -/
def shown (K : PySem.W.Frag) (a : Addr) : He.FnW := (K.lookup a).bind fun o => match o.data with
  | .func f => some (f.name, f.qualname, f.params, f.body, f.scope, f.globals, f.closure, f.builtins)
  | _ => none
def sound (K : PySem.W.Frag) (d : Dn) : Bool := PySem.W.keepIn K (.ref (d.1 K)) && (((K.lookup (d.1 K)).bind fun o => match o.data with
  | .func f => some (PySem.W.codeIn K f.code d.2.qual && (He.dflB K f.defaults (d.2.dvs K) && He.kwdB K f.kwdefaults (d.2.kws K)))
  | _ => none).getD false)
theorem sound_fun {K : PySem.W.Frag} {d : Dn} (e : shown K (d.1 K) = d.2.val) (c : sound K d = true) :
    ∃ fd, FunD K d.2.name d.2.qual d.2.params d.2.body d.2.scope (d.2.dvs K) (d.2.kws K) (d.1 K) fd := by
  obtain ⟨keep, c2⟩ := Bool.and_eq_true_iff.mp c
  unfold shown at e
  rcases look : K.lookup (d.1 K) with _ | ⟨oc, od, dt, osl⟩
  · rw [look] at e
    cases e
  · rw [look] at e c2
    rcases dt with _ | _ | _ | _ | _ | _ | _ | _ | _ | _ | _ | _ | _
    all_goals first
      | (cases e; done)
      | skip
    all_goals
      rename_i fd
      obtain ⟨m1, m2, m3, m4, m5, m6, m7, m8, m9, m10, m11, m12, m13, m14, m15⟩ := fd
      have e' : (some (m1, m2, m3, m4, m5, m6, m7, m15) : He.FnW) = some (d.2.name, d.2.qual, d.2.params, .stmts d.2.body, d.2.scope, mainGlobals, [], builtinsNs) := e
      simp only [Option.some.injEq, Prod.mk.injEq] at e'
      obtain ⟨rfl, rfl, rfl, rfl, rfl, rfl, rfl, rfl⟩ := e'
      have c3 : (PySem.W.codeIn K m13 d.2.qual && (He.dflB K m8 (d.2.dvs K) && He.kwdB K m9 (d.2.kws K))) = true := c2
      obtain ⟨c4, c5⟩ := Bool.and_eq_true_iff.mp c3
      obtain ⟨c6, c7⟩ := Bool.and_eq_true_iff.mp c5
      exact ⟨_, ⟨oc, od, m8, m9, m10, m11, m12, m13, m14, osl, rfl, look, c4, He.dflB_ok c6, He.kwdB_ok c7⟩, keep⟩
/-! more facts, each a Bool over the written part -/
def propB (c f : Str) (K : PySem.W.Frag) : Bool :=
  He.eqO (PySem.W.findIn K (.ref (He.ga K c)) f) (some (some (.ref (He.ma K (He.ga K c) f)))) && (decide (PySem.W.specialIn K (.ref (He.ma K (He.ga K c) f)) "__get__" = some (some (.builtin "property.__get__"))) &&
    (decide (PySem.W.takesIn K (.ref (He.ma K (He.ga K c) f)) = some true) && (match PySem.W.recIn K (He.ma K (He.ga K c) f) "property" with | some (.ref g :: _) => decide (g = inRec "property" c f K) | _ => false)))
theorem propB_ok {c f : Str} {K : PySem.W.Frag} (h : propB c f K = true) : PropOf K (He.ga K c) f (He.ma K (He.ga K c) f) (inRec "property" c f K) := by
  obtain ⟨h1, h⟩ := Bool.and_eq_true_iff.mp h
  obtain ⟨h2, h⟩ := Bool.and_eq_true_iff.mp h
  obtain ⟨h3, h4⟩ := Bool.and_eq_true_iff.mp h
  refine ⟨He.eqO_ok h1, of_decide_eq_true h2, of_decide_eq_true h3, ?_⟩
  cases e : PySem.W.recIn K (He.ma K (He.ga K c) f) "property" with
  | none => rw [e] at h4; cases h4
  | some l =>
    rw [e] at h4
    cases l with
    | nil => cases h4
    | cons v r =>
      cases v with
      | ref g => exact ⟨r, by rw [of_decide_eq_true h4]⟩
      | _ => cases h4
def insB (c : Str) (K : PySem.W.Frag) : Bool := He.eqO (PySem.W.findIn K (.ref (He.ga K c)) "__class__") (some (some (.builtin "object.__class__"))) &&
  (decide (PySem.W.specialIn K (.builtin "object.__class__") "__get__" = some (some (.builtin "getset_descriptor.__get__"))) && (decide (PySem.W.takesIn K (.builtin "object.__class__") = some true) &&
    (decide (PySem.W.mroIn K (He.ga K c) (.type "object") = some true) && (decide (PySem.W.kitOne K (.ref (He.ga K c)) (.ref (He.ga K c)) = some true) && (PySem.W.notFirst K (He.ga K c) (.ref (He.ga K c)))))))
structure InsF (K : PySem.W.Frag) (C : Addr) : Prop where
  ha : PySem.W.findIn K (.ref C) "__class__" = some (some (.builtin "object.__class__"))
  hn : PySem.W.specialIn K (.builtin "object.__class__") "__get__" = some (some (.builtin "getset_descriptor.__get__"))
  htk : PySem.W.takesIn K (.builtin "object.__class__") = some true
  hm : PySem.W.mroIn K C (.type "object") = some true
  me : PySem.W.kitOne K (.ref C) (.ref C) = some true
  nf : PySem.W.notFirst K C (.ref C) = true
theorem insB_ok {c : Str} {K : PySem.W.Frag} (h : insB c K = true) : InsF K (He.ga K c) := by
  obtain ⟨h1, h⟩ := Bool.and_eq_true_iff.mp h
  obtain ⟨h2, h⟩ := Bool.and_eq_true_iff.mp h
  obtain ⟨h3, h⟩ := Bool.and_eq_true_iff.mp h
  obtain ⟨h4, h⟩ := Bool.and_eq_true_iff.mp h
  obtain ⟨h5, h6⟩ := Bool.and_eq_true_iff.mp h
  exact ⟨He.eqO_ok h1, of_decide_eq_true h2, of_decide_eq_true h3, of_decide_eq_true h4, of_decide_eq_true h5, h6⟩
/-- no value of this built-in type is an instance of the class, none goes first -/
def kitsB (c : Str) (ts : List String) (K : PySem.W.Frag) : Bool := ts.all fun t => decide (PySem.W.kitOne K (.type t) (.ref (He.ga K c)) = some false) && PySem.W.notFirst K (He.ga K c) (.type t)
theorem kitsB_ok {c : Str} {ts : List String} {K : PySem.W.Frag} (h : kitsB c ts K = true) {t : String} (ht : t ∈ ts) : PySem.W.kitOne K (.type t) (.ref (He.ga K c)) = some false ∧ PySem.W.notFirst K (He.ga K c) (.type t) = true := by
  obtain ⟨h1, h2⟩ := Bool.and_eq_true_iff.mp (List.all_eq_true.mp h t ht)
  exact ⟨of_decide_eq_true h1, h2⟩
def attB (c m : Str) (v : Value) (K : PySem.W.Frag) : Bool := He.eqO (PySem.W.findIn K (.ref (He.ga K c)) m) (some (some v))
abbrev Al : Type := Bool × List He.FnW
def seenBy (fa : List He.Fa) (ex : PySem.W.Frag → Bool) (fn : List Dn) (K : PySem.W.Frag) : Al := ((fa.all fun f => f.ok K) && (ex K && fn.all fun d => sound K d), fn.map fun d => shown K (d.1 K))
def wanted (fn : List Dn) : Al := (true, fn.map fun d => d.2.val)
def Says (fa : List He.Fa) (ex : PySem.W.Frag → Bool) (fn : List Dn) (K : PySem.W.Frag) : Prop := seenBy fa ex fn K = wanted fn
def atHeap (n : Nat) (fa : List He.Fa) (ex : PySem.W.Frag → Bool) (fn : List Dn) (g : Addr → Option Obj) : Al := seenBy fa ex fn (He.frG g (cStatics :: He.asD g n))
def hook (n : Nat) (fa : List He.Fa) (ex : PySem.W.Frag → Bool) (fn : List Dn) : PySem.W.Hook where
  α := Al
  obs := fun s => atHeap n fa ex fn s.heap.get?
  val := fun _ => wanted fn
  says := fun _ h => ∃ K : PySem.W.Frag, K.In h ∧ Says fa ex fn K
  of := fun _ _ e => ⟨_, He.frG_in, e⟩
  keeps := fun _ _ _ ⟨K, hK, c⟩ k => ⟨K, PySem.W.Frag.In.keeps hK k, c⟩
theorem at_eq {n : Nat} {fa : List He.Fa} {ex : PySem.W.Frag → Bool} {fn : List Dn} {g : Addr → Option Obj} {s : Shared} (h : ∀ a, g a = s.heap.get? a) : atHeap n fa ex fn g = (hook n fa ex fn).obs s := by
  obtain rfl : g = s.heap.get? := funext h
  rfl
section
variable {fa : List He.Fa} {ex : PySem.W.Frag → Bool} {fn : List Dn} {K : PySem.W.Frag}
theorem Says.fst (c : Says fa ex fn K) : ((fa.all fun f => f.ok K) && (ex K && fn.all fun d => sound K d)) = true := congrArg (fun z : Al => z.1) c
theorem Says.fact (c : Says fa ex fn K) {f : He.Fa} (h : f ∈ fa) : f.ok K = true := List.all_eq_true.mp (Bool.and_eq_true_iff.mp c.fst).1 f h
theorem Says.more (c : Says fa ex fn K) : ex K = true := (Bool.and_eq_true_iff.mp (Bool.and_eq_true_iff.mp c.fst).2).1
theorem Says.fun_ (c : Says fa ex fn K) (i : Nat) {d : Dn} (h : fn[i]? = some d) : ∃ fd, FunD K d.2.name d.2.qual d.2.params d.2.body d.2.scope (d.2.dvs K) (d.2.kws K) (d.1 K) fd := by
  have all := List.all_eq_true.mp (Bool.and_eq_true_iff.mp (Bool.and_eq_true_iff.mp c.fst).2).2 d (List.mem_of_getElem? h)
  have e : fn.map (fun d => shown K (d.1 K)) = fn.map fun d => d.2.val := congrArg (fun z : Al => z.2) c
  have e2 : (fn.map fun d => shown K (d.1 K))[i]? = (fn.map fun d => d.2.val)[i]? := by rw [e]
  rw [List.getElem?_map, List.getElem?_map, h] at e2
  exact sound_fun (Option.some.inj e2) all
end
end Hd
namespace Hd
open PySem PySem.Spec PyProof.Rows L2
def cmB (c m : Str) (K : PySem.W.Frag) : Bool := PySem.W.readsIn K (He.ga K c) (.type "type") && (He.eqO (PySem.W.specialIn K (.ref (He.ga K c)) "__getattribute__") (some (some (.builtin "type.__getattribute__"))) &&
  ((match PySem.W.findCls K (.ref (He.ga K c)) (.type "type") m with | some (.get (.builtin a) (.ref p) .none (.ref C)) => decide (a = "classmethod.__get__") && (decide (p = He.ma K (He.ga K c) m) && decide (C = He.ga K c)) | _ => false) &&
    ((match PySem.W.recIn K (He.ma K (He.ga K c) m) "classmethod" with | some (.ref g :: _) => decide (g = inRec "classmethod" c m K) | _ => false) && PySem.W.fnIn K (inRec "classmethod" c m K))))
theorem cmB_ok {c m : Str} {K : PySem.W.Frag} (h : cmB c m K = true) : ClX.CRead K (He.ga K c) (.type "type") ∧ ClX.CMet K (He.ga K c) (.type "type") m (He.ma K (He.ga K c) m) (inRec "classmethod" c m K) := by
  obtain ⟨h1, h⟩ := Bool.and_eq_true_iff.mp h
  obtain ⟨h2, h⟩ := Bool.and_eq_true_iff.mp h
  obtain ⟨h3, h⟩ := Bool.and_eq_true_iff.mp h
  obtain ⟨h4, h5⟩ := Bool.and_eq_true_iff.mp h
  refine ⟨⟨h1, He.eqO_ok h2⟩, ⟨?_, ?_, h5⟩⟩
  · cases e : PySem.W.findCls K (.ref (He.ga K c)) (.type "type") m with
    | none => rw [e] at h3; cases h3
    | some r =>
      rw [e] at h3
      cases r with
      | get a b d f =>
        cases a <;> try (cases h3; done)
        cases b <;> try (cases h3; done)
        cases d <;> try (cases h3; done)
        cases f <;> try (cases h3; done)
        obtain ⟨q1, q⟩ := Bool.and_eq_true_iff.mp h3
        obtain ⟨q2, q3⟩ := Bool.and_eq_true_iff.mp q
        rw [of_decide_eq_true q1, of_decide_eq_true q2, of_decide_eq_true q3]
      | val v => cases h3
  · cases e : PySem.W.recIn K (He.ma K (He.ga K c) m) "classmethod" with
    | none => rw [e] at h4; cases h4
    | some l =>
      rw [e] at h4
      cases l with
      | nil => cases h4
      | cons v r =>
        cases v with
        | ref g => exact ⟨r, by rw [of_decide_eq_true h4]⟩
        | _ => cases h4
end Hd
namespace Hd
open PySem PySem.Spec PyProof.Rows L2
/-- the default of a keyword-only parameter, if it is an object -/
def kwAt (f : Str × Option Str) (x : Str) (K : PySem.W.Frag) : Addr := match K.lookup (He.fAd K f) with
  | some ⟨_, _, .func fd, _⟩ => (match fd.kwdefaults with
    | .ref t => (match PySem.W.nsIn K t x with
      | some (some (.ref b)) => b
      | _ => 0)
    | _ => 0)
  | _ => 0
/-- the i-th thing of a tuple, if it is an object -/
def itAt (x : Str) (i : Nat) (K : PySem.W.Frag) : Addr := match K.lookup (He.ga K x) with
  | some ⟨_, _, .seq its _, _⟩ => (match its.toList[i]? with
    | some (.ref b) => b
    | _ => 0)
  | _ => 0
/-- a tuple of the written part, by its place -/
def tupAtB (K : PySem.W.Frag) (a : Addr) (vs : List V) : Bool := match K.lookup a with
  | some ⟨.type c, _, .seq its _, _⟩ => decide (c = "tuple") && (decide (its.size ≤ sizeLine) && He.relAll vs its.toList)
  | _ => false
theorem tupAtB_ok {K : PySem.W.Frag} {a : Addr} {vs : List V} (h : tupAtB K a vs = true) (H : Hp) : SqT K H a vs := by
  unfold tupAtB at h
  split at h
  · rename_i q
    obtain ⟨h1, h2⟩ := Bool.and_eq_true_iff.mp h
    obtain ⟨h3, h4⟩ := Bool.and_eq_true_iff.mp h2
    exact .inr ⟨_, _, _, q, congrArg Value.type (of_decide_eq_true h1), rfl, of_decide_eq_true h3, He.relAll_ok h4⟩
  · cases h
end Hd
/-! ## short words over the layer -/
namespace Bs
open PySem PySem.Spec PyProof.Rows L2
variable {P : Program} {w : World} {K : PySem.W.Frag} {mg : Str → Option Value} {base : Heap}
/-- a promise's def, called by its name, no defaults asked -/
theorem mkCal {nm qual x : Str} {par : Arguments} {bd : List Stmt} {sco : Scope} {N ps : List Str} {k : Nat} {sp : Sp} {kws : List (Str × V)} {dvs dvs' : List V} {ds : List Value} {a : Addr} {fd : FuncData}
    (F : FunD K nm qual par bd sco dvs' kws a fd) (hm : mg x = some (.ref a)) (b : Binds K fd ps ds) (v : Vals dvs ds) (S : FnScope N ps sco) (len : ∀ vs H Q E, sp vs H Q E → vs.length = ps.length)
    (body : ∀ (cdv : Value) (A : Around) (outer : List Env) (s : Shared) (H : Hp) (vs : List V) (Q : VK) (E : XK), Room k (A.deeper (envOfC qual sco s.heap.objs.size a cdv)) → sp vs H Q E →
      ∃ t, PSs (cxOf C8.CX0 P w K mg base N qual sco a cdv A outer s H E).nox bd t ∧ t { nx := fun _ H' => Q .non H', rt := Q } (start N vs) H) : C8.Cal P w K mg base (k + 1) x sp dvs :=
  ⟨a, fd, ps, ds, F.ok S len fun cdv A outer s H vs Q E hr h => let ⟨t, h1, h2⟩ := body cdv A outer s H vs Q E hr h
    ⟨t, h1.nox, h2⟩, hm, F.kp, b, v⟩
theorem Cal.mono {j k : Nat} {x : Str} {sp : Sp} {dvs : List V} (c : C8.Cal P w K mg base j x sp dvs) (h : j ≤ k) : C8.Cal P w K mg base k x sp dvs := by
  obtain ⟨f, fd, ps, ds, F, r⟩ := c.ex
  exact ⟨f, fd, ps, ds, F.mono h, r⟩
/-- all is kept but what stands at p -/
def Kp (p : Addr) (H H' : Hp) : Prop := ∀ b o, H b = some o → b ≠ p → H' b = some o
theorem Kp.refl (p : Addr) (H : Hp) : Kp p H H := fun _ _ e _ => e
theorem Kp.trans {p : Addr} {H H1 H2 : Hp} (a : Kp p H H1) (b : Kp p H1 H2) : Kp p H H2 := fun c o e n => b c o (a c o e n) n
theorem Kp.of {p : Addr} {H H' : Hp} (a : Same H H') : Kp p H H' := fun c o e _ => a c o e
theorem Kp.upd {p : Addr} {H : Hp} {o : HO} : Kp p H (upd H p o) := fun c u e n => by rw [upd_ne n]; exact e
theorem Kp.new {p q : Addr} {H H' : Hp} {o : HO} (a : Kp p H H') (hq : H' q = none) : Kp p H (L2.upd H' q o) := fun c u e n => by rw [upd_ne (ne_of_none (a c u e n) hq)]; exact a c u e n
theorem Kp.put {p : Addr} {H H' : Hp} {o : HO} (a : Kp p H H') : Kp p H (L2.upd H' p o) := fun c u e n => by rw [upd_ne n]; exact a c u e n
/-- a step at an address that was free when the count began -/
theorem Kp.loc {p q : Addr} {H H' : Hp} {o : HO} (a : Kp p H H') (hq : H q = none) : Kp p H (L2.upd H' q o) := fun c u e n => by rw [upd_ne (ne_of_none e hq)]; exact a c u e n
theorem Same.new {q : Addr} {H H' : Hp} {o : HO} (a : Same H H') (hq : H' q = none) : Same H (L2.upd H' q o) := fun c u e => by rw [upd_ne (ne_of_none (a c u e) hq)]; exact a c u e
theorem Same.loc {q : Addr} {H H' : Hp} {o : HO} (a : Same H H') (hq : H q = none) : Same H (L2.upd H' q o) := fun c u e => by rw [upd_ne (ne_of_none e hq)]; exact a c u e
theorem SqL.kp {p a : Addr} {H H' : Hp} {xs : List V} (h : SqL K H a xs) (k : Kp p H H') (n : ∀ o, H a = some o → a ≠ p) : SqL K H' a xs := by
  rcases h with (h | ⟨o, h⟩) | h
  · exact .inl (.inl (k a _ h (n _ h)))
  · exact .inl (.inr ⟨o, k a _ h (n _ h)⟩)
  · exact .inr h
theorem SqT.kp {p a : Addr} {H H' : Hp} {xs : List V} (h : SqT K H a xs) (k : Kp p H H') (n : ∀ o, H a = some o → a ≠ p) : SqT K H' a xs := by
  rcases h with (h | ⟨o, h⟩) | h
  · exact .inl (.inl (k a _ h (n _ h)))
  · exact .inl (.inr ⟨o, k a _ h (n _ h)⟩)
  · exact .inr h
/-- the pen's dict: the script, the place of the next cell, what is left of a large one -/
def penD (a : Addr) (i l : Int) : HO := .dK [(Sum.inr "script", .ref a), (Sum.inr "at", .int i), (Sum.inr "left", .int l)]
/-- a locked list: nothing that runs changes it -/
def Fz (K : PySem.W.Frag) (H : Hp) (a : Addr) (xs : List V) : Prop := (∃ o, H a = some (.frz o (.lst xs))) ∨ ∀ H' : Hp, SqL K H' a xs
theorem Fz.sq {H : Hp} {a : Addr} {xs : List V} (h : Fz K H a xs) : SqL K H a xs := by
  rcases h with ⟨o, h⟩ | h
  · exact .inl (.inr ⟨o, h⟩)
  · exact h H
theorem Fz.to {H H' : Hp} {a : Addr} {xs : List V} (h : Fz K H a xs) (k : ∀ o u, H a = some (.frz o u) → H' a = some (.frz o u)) : Fz K H' a xs := by
  rcases h with ⟨o, h⟩ | h
  · exact .inl ⟨o, k _ _ h⟩
  · exact .inr h
theorem Fz.only {H : Hp} {a : Addr} {xs : List V} (o : Only H) (h : SqL K H a xs) : Fz K H a xs := by
  rcases h with (h | h) | h
  · rcases o a with e | ⟨_, _, e⟩
    · rw [e] at h; cases h
    · rw [e] at h; cases h
  · exact .inl h
  · exact .inr fun _ => .inr h
/-- what is at q is no locked thing -/
def Loose (H : Hp) (q : Addr) : Prop := ∀ o u, H q ≠ some (.frz o u)
theorem Loose.nil {H : Hp} {q : Addr} (h : H q = none) : Loose H q := fun o u e => by rw [h] at e; cases e
theorem Loose.lst {H : Hp} {q : Addr} {xs : List V} (h : H q = some (.lst xs)) : Loose H q := fun o u e => by rw [h] at e; cases e
theorem Loose.dK {H : Hp} {q : Addr} {xs : List (Key × V)} (h : H q = some (.dK xs)) : Loose H q := fun o u e => by rw [h] at e; cases e
theorem Fz.upd {H : Hp} {q a : Addr} {xs : List V} {u : HO} (h : Fz K H a xs) (l : Loose H q) : Fz K (L2.upd H q u) a xs :=
  h.to fun o v e => by rw [upd_ne (fun z => l o v (by rw [← z]; exact e))]; exact e
/-- a pen at p that has drawn at most n cells -/
def Pen (K : PySem.W.Frag) (H : Hp) (p : Addr) (n : Nat) : Prop := ∃ (a : Addr) (ns : List Int) (i l : Int), H p = some (penD a i l) ∧ Fz K H a (ns.map V.int) ∧ ns.length ≤ 63 ∧ 0 ≤ i ∧ i ≤ n ∧ 0 ≤ l
theorem Pen.mono {H : Hp} {p : Addr} {n m : Nat} (h : Pen K H p n) (l : n ≤ m) : Pen K H p m := by
  obtain ⟨a, ns, i, q, h1, h2, h3, h4, h5, h6⟩ := h
  exact ⟨a, ns, i, q, h1, h2, h3, h4, by omega, h6⟩
theorem Fz.kpen {H H' : Hp} {p a : Addr} {i l : Int} {b : Addr} {xs : List V} (h : H p = some (penD a i l)) (s : Fz K H b xs) (k : Kp p H H') : Fz K H' b xs :=
  s.to fun o u e => k b _ e (ne_of e h (by intro z; cases z))
/-- other objects are made or changed, the pen is not -/
theorem Pen.same {H H' : Hp} {p : Addr} {n : Nat} (h : Pen K H p n) (k : Same H H') : Pen K H' p n := by
  obtain ⟨a, ns, i, q, h1, h2, h3, h4, h5, h6⟩ := h
  exact ⟨a, ns, i, q, k _ _ h1, h2.to fun _ _ e => k _ _ e, h3, h4, h5, h6⟩
theorem Pen.upd {H : Hp} {p q : Addr} {n : Nat} {o : HO} (h : Pen K H p n) (hq : H q = none) : Pen K (L2.upd H q o) p n := h.same (Same.new (Same.refl H) hq)
theorem Pen.put {H : Hp} {p q : Addr} {n : Nat} {o : HO} {xs : List V} (h : Pen K H p n) (hq : H q = .some (.lst xs)) : Pen K (L2.upd H q o) p n := by
  obtain ⟨a, ns, i, l, h1, h2, h3, h4, h5, h6⟩ := h
  exact ⟨a, ns, i, l, by rw [upd_ne (ne_of h1 hq (by intro z; cases z))]; exact h1, h2.upd (Loose.lst hq), h3, h4, h5, h6⟩
theorem Kp.free {p D : Addr} {H H' : Hp} (k : Kp p H H') (h : H' D = none) (hp : H' p ≠ none) : H D = none := by
  have ne : D ≠ p := fun q => hp (by rw [← q]; exact h)
  cases e : H D with
  | none => rfl
  | some o => rw [k D o e ne] at h; cases h
theorem Pen.ne {H : Hp} {p D : Addr} {n : Nat} (h : Pen K H p n) (e : H D = none) : D ≠ p := by
  obtain ⟨_, _, _, _, hp, _⟩ := h
  exact (ne_of_none hp e).symm
theorem Pen.there {H : Hp} {p : Addr} {n : Nat} (h : Pen K H p n) : H p ≠ none := by
  obtain ⟨_, _, _, _, hp, _⟩ := h
  rw [hp]
  exact fun q => by cases q
theorem Pen.nel {H : Hp} {p D : Addr} {n : Nat} {xs : List V} (h : Pen K H p n) (e : H D = .some (.lst xs)) : D ≠ p := by
  obtain ⟨_, _, _, _, hp, _⟩ := h
  exact ne_of e hp (by intro z; cases z)
theorem Pen.net {H : Hp} {p D : Addr} {n : Nat} {xs : List V} (h : Pen K H p n) (e : H D = .some (.tup xs)) : D ≠ p := by
  obtain ⟨_, _, _, _, hp, _⟩ := h
  exact ne_of e hp (by intro z; cases z)
theorem script_ne : ¬ (("script" : Str) = "at") ∧ ¬ (("script" : Str) = "left") ∧ ¬ (("at" : Str) = "left") ∧ ¬ (("at" : Str) = "script") ∧ ¬ (("left" : Str) = "script") ∧ ¬ (("left" : Str) = "at") := by decide +kernel
theorem atI_of {α : Type} {xs : List α} {k : Int} (h0 : 0 ≤ k) (h1 : k < (xs.length : Nat)) : ∃ v, atI xs k = some v ∧ v ∈ xs ∧ xs[k.toNat]? = some v := by
  have hk : k.toNat < xs.length := by omega
  have ek : k = ((k.toNat : Nat) : Int) := by omega
  refine ⟨xs[k.toNat], ?_, List.getElem_mem hk, List.getElem?_eq_getElem hk⟩
  have z : atI xs ((k.toNat : Nat) : Int) = some xs[k.toNat] := atI_nat (List.getElem?_eq_getElem hk)
  rw [← ek] at z
  exact z
theorem atI_int {ns : List Int} {k : Int} (h0 : 0 ≤ k) (h1 : k < (ns.length : Nat)) : ∃ v : Int, atI (ns.map V.int) k = some (.int v) ∧ v ∈ ns := by
  obtain ⟨x, e, hx, _⟩ := atI_of (xs := ns.map V.int) h0 (by rw [List.length_map]; exact h1)
  obtain ⟨v, hv, rfl⟩ := List.mem_map.mp hx
  exact ⟨v, e, hv⟩
end Bs
namespace Pf
open PySem PySem.Spec PyProof.Rows L2
def top (i : Nat) : Stmt := PySem.Challenge.pw_splitplans_k21_steps_with_two_inputs.main.body.getD i (.Pass ⟨0, 0, 0, 0⟩)
abbrev s_has_twice : Stmt := top 7
abbrev s_is_name : Stmt := top 13
abbrev s_check_where : Stmt := top 21
abbrev s_check_compute : Stmt := top 22
abbrev s_check_equal : Stmt := top 23
abbrev s_check_keep : Stmt := top 24
abbrev s_check_distinct : Stmt := top 25
abbrev s_check_group : Stmt := top 26
abbrev s_check_join : Stmt := top 27
abbrev s_check_pairs : Stmt := top 28
abbrev s_check_union : Stmt := top 29
abbrev s_refuse : Stmt := top 30
abbrev s_has_strange : Stmt := top 31
abbrev s_has_measure : Stmt := top 32
abbrev s_is_sum : Stmt := top 33
abbrev s_Table_init : Stmt := inClass (top 37) 1
abbrev s_Table_eq : Stmt := inClass (top 37) 4
abbrev s_Table_str : Stmt := inClass (top 37) 5
abbrev s_fault_of : Stmt := top 38
abbrev s_are_unlike : Stmt := top 39
abbrev s_is_dealt : Stmt := top 40
abbrev s_row_of : Stmt := top 41
abbrev s_scan : Stmt := top 43
abbrev s_Step_init : Stmt := inClass (top 44) 0
abbrev s_Step_where : Stmt := inClass (top 44) 1
abbrev s_Step_compute : Stmt := inClass (top 44) 2
abbrev s_Step_equal : Stmt := inClass (top 44) 3
abbrev s_Step_keep : Stmt := inClass (top 44) 4
abbrev s_Step_distinct : Stmt := inClass (top 44) 5
abbrev s_Step_group_by : Stmt := inClass (top 44) 6
abbrev s_Step_broadcast : Stmt := inClass (top 44) 10
abbrev s_Step_gather : Stmt := inClass (top 44) 11
abbrev s_Step_join_with : Stmt := inClass (top 44) 13
abbrev s_Step_semi_with : Stmt := inClass (top 44) 14
abbrev s_Step_anti_with : Stmt := inClass (top 44) 15
abbrev s_Step_add : Stmt := inClass (top 44) 16
abbrev s_Step_alike : Stmt := inClass (top 44) 17
abbrev s_Step_grouped : Stmt := inClass (top 44) 18
abbrev s_tuples : Stmt := top 45
abbrev s_Lpen : Stmt := top 47
abbrev s_Ldraw : Stmt := top 48
abbrev s_Lpick : Stmt := top 49
abbrev s_Lsome : Stmt := top 50
abbrev s_Lbase : Stmt := top 51
abbrev s_Lpairs : Stmt := top 52
abbrev s_Ltwo : Stmt := top 53
abbrev s_Lright : Stmt := top 54
abbrev s_law : Stmt := top 55
def d_has_twice : Hd.Dn := Hd.dG "has_twice" s_has_twice [] []
def d_is_name : Hd.Dn := Hd.dG "is_name" s_is_name [] []
def d_check_where : Hd.Dn := Hd.dG "check_where" s_check_where [] []
def d_check_compute : Hd.Dn := Hd.dG "check_compute" s_check_compute [] []
def d_check_equal : Hd.Dn := Hd.dG "check_equal" s_check_equal [] []
def d_check_keep : Hd.Dn := Hd.dG "check_keep" s_check_keep [] []
def d_check_distinct : Hd.Dn := Hd.dG "check_distinct" s_check_distinct [] []
def d_check_group : Hd.Dn := Hd.dG "check_group" s_check_group [] []
def d_check_join : Hd.Dn := Hd.dG "check_join" s_check_join [] []
def d_check_pairs : Hd.Dn := Hd.dG "check_pairs" s_check_pairs [] []
def d_check_union : Hd.Dn := Hd.dG "check_union" s_check_union [] []
def d_refuse : Hd.Dn := Hd.dG "_refuse" s_refuse [] []
def d_has_strange : Hd.Dn := Hd.dG "_has_strange" s_has_strange [] []
def d_has_measure : Hd.Dn := Hd.dG "_has_measure" s_has_measure [] []
def d_is_sum : Hd.Dn := Hd.dG "_is_sum" s_is_sum [] []
def d_Table_init : Hd.Dn := Hd.dM "Table" "__init__" "Table.__init__" s_Table_init [] [("key", .adr (Hd.kwAt ("Table", some "__init__") "key")), ("lies", .adr (Hd.kwAt ("Table", some "__init__") "lies"))]
def d_Table_eq : Hd.Dn := Hd.dM "Table" "__eq__" "Table.__eq__" s_Table_eq [] []
def d_Table_str : Hd.Dn := Hd.dM "Table" "__str__" "Table.__str__" s_Table_str [] []
def d_fault_of : Hd.Dn := Hd.dG "_fault_of" s_fault_of [] []
def d_are_unlike : Hd.Dn := Hd.dG "_are_unlike" s_are_unlike [] []
def d_is_dealt : Hd.Dn := Hd.dG "_is_dealt" s_is_dealt [] []
def d_row_of : Hd.Dn := Hd.dG "_row_of" s_row_of [] []
def d_scan : Hd.Dn := Hd.dG "scan" s_scan [] []
def d_Step_init : Hd.Dn := Hd.dM "Step" "__init__" "Step.__init__" s_Step_init [] [("table", .non), ("name", .str ""), ("new", .str ""), ("named", .adr (Hd.kwAt ("Step", some "__init__") "named")), ("pairs", .adr (Hd.kwAt ("Step", some "__init__") "pairs")), ("sums", .adr (Hd.kwAt ("Step", some "__init__") "sums"))]
def d_Step_where : Hd.Dn := Hd.dM "Step" "where" "Step.where" s_Step_where [] []
def d_Step_compute : Hd.Dn := Hd.dM "Step" "compute" "Step.compute" s_Step_compute [] []
def d_Step_equal : Hd.Dn := Hd.dM "Step" "equal" "Step.equal" s_Step_equal [] []
def d_Step_keep : Hd.Dn := Hd.dM "Step" "keep" "Step.keep" s_Step_keep [] []
def d_Step_distinct : Hd.Dn := Hd.dM "Step" "distinct" "Step.distinct" s_Step_distinct [] []
def d_Step_group_by : Hd.Dn := Hd.dM "Step" "group_by" "Step.group_by" s_Step_group_by [] []
def d_Step_broadcast : Hd.Dn := Hd.dM "Step" "broadcast" "Step.broadcast" s_Step_broadcast [] []
def d_Step_gather : Hd.Dn := Hd.dM "Step" "gather" "Step.gather" s_Step_gather [] []
def d_Step_join_with : Hd.Dn := Hd.dM "Step" "join_with" "Step.join_with" s_Step_join_with [] []
def d_Step_semi_with : Hd.Dn := Hd.dM "Step" "semi_with" "Step.semi_with" s_Step_semi_with [] []
def d_Step_anti_with : Hd.Dn := Hd.dM "Step" "anti_with" "Step.anti_with" s_Step_anti_with [] []
def d_Step_add : Hd.Dn := Hd.dM "Step" "__add__" "Step.__add__" s_Step_add [] []
def d_Step_alike : Hd.Dn := Hd.dM "Step" "_alike" "Step._alike" s_Step_alike [] []
def d_Step_grouped : Hd.Dn := Hd.dM "Step" "_grouped" "Step._grouped" s_Step_grouped [] []
def d_tuples : Hd.Dn := Hd.dG "_tuples" s_tuples [] []
def d_Lpen : Hd.Dn := Hd.dG "_law_pen" s_Lpen [] []
def d_Ldraw : Hd.Dn := Hd.dG "_law_draw" s_Ldraw [] []
def d_Lpick : Hd.Dn := Hd.dG "_law_pick" s_Lpick [] []
def d_Lsome : Hd.Dn := Hd.dG "_law_some" s_Lsome [] []
def d_Lbase : Hd.Dn := Hd.dG "_law_base" s_Lbase [] []
def d_Lpairs : Hd.Dn := Hd.dG "_law_pairs" s_Lpairs [] []
def d_Ltwo : Hd.Dn := Hd.dG "_law_two" s_Ltwo [] []
def d_Lright : Hd.Dn := Hd.dG "_law_right" s_Lright [] []
def d_law : Hd.Dn := Hd.dG "law" s_law [] []
def defs : List Hd.Dn := [d_has_twice, d_is_name, d_check_where, d_check_compute, d_check_equal, d_check_keep, d_check_distinct, d_check_group, d_check_join, d_check_pairs, d_check_union, d_refuse, d_has_strange, d_has_measure, d_is_sum, d_Table_init, d_Table_eq, d_Table_str, d_fault_of, d_are_unlike, d_is_dealt, d_row_of, d_scan, d_Step_init, d_Step_where, d_Step_compute, d_Step_equal, d_Step_keep, d_Step_distinct, d_Step_group_by, d_Step_broadcast, d_Step_gather, d_Step_join_with, d_Step_semi_with, d_Step_anti_with, d_Step_add, d_Step_alike, d_Step_grouped, d_tuples, d_Lpen, d_Ldraw, d_Lpick, d_Lsome, d_Lbase, d_Lpairs, d_Ltwo, d_Lright, d_law]
def fa : List He.Fa := [.glo "PlanError", .glo "InputError", .glo "InvalidTable", .glo "InvalidStep", .glo "has_twice", .glo "is_name", .glo "check_where", .glo "check_compute", .glo "check_equal", .glo "check_keep", .glo "check_distinct", .glo "check_group", .glo "check_join", .glo "check_pairs", .glo "check_union", .glo "_refuse", .glo "_has_strange", .glo "_has_measure", .glo "_is_sum", .glo "Table", .glo "_fault_of", .glo "_are_unlike", .glo "_is_dealt", .glo "_row_of", .glo "scan", .glo "Step", .glo "_tuples", .glo "_law_pen", .glo "_law_draw", .glo "_law_pick", .glo "_law_some", .glo "_law_base", .glo "_law_pairs", .glo "_law_two", .glo "_law_right", .glo "law", .free "abs", .free "all", .free "any", .free "int", .free "isinstance", .free "len", .free "list", .free "max", .free "min", .free "range", .free "set", .free "str", .free "tuple", .free "zip", .glo "WORDS", .glo "PLAIN_LIES", .int "MOST_CHARACTERS" 8, .int "MOST_DEALT" 3, .int "MOST_TESTED" 8, .int "MOST_ARGUMENTS" 3, .int "MOST_KEYS" 4, .int "MOST_MEASURES" 3, .int "MOST_DEEP" 3, .int "MOST_PAIRS" 3, .str "LETTERS" "abcdefghijklmnopqrstuvwxyz", .str "CHARACTERS" "abcdefghijklmnopqrstuvwxyz0123456789_", .cls "Table", .mkr "Table", .noat "Table" "name", .noat "Table" "columns", .noat "Table" "key", .noat "Table" "lies", .noat "Table" "text", .meth "Table" "__init__", .meth "Table" "__eq__", .meth "Table" "__str__", .cls "Step", .mkr "Step", .noat "Step" "kind", .noat "Step" "inputs", .noat "Step" "columns", .noat "Step" "measures", .noat "Step" "depths", .noat "Step" "table", .noat "Step" "name", .noat "Step" "new", .noat "Step" "named", .noat "Step" "pairs", .noat "Step" "sums", .meth "Step" "__init__", .meth "Step" "where", .meth "Step" "compute", .meth "Step" "equal", .meth "Step" "keep", .meth "Step" "distinct", .meth "Step" "group_by", .meth "Step" "sort_by", .meth "Step" "own_by", .meth "Step" "split_by", .meth "Step" "broadcast", .meth "Step" "gather", .meth "Step" "merge_by", .meth "Step" "_alike", .meth "Step" "_grouped", .meth "Step" "join_with", .meth "Step" "semi_with", .meth "Step" "anti_with", .meth "Step" "__add__"]
def loose0 : List PySem.Str := ["_wall", "PlanError", "InputError", "InvalidTable", "InvalidStep", "has_twice", "MOST_CHARACTERS", "LETTERS", "CHARACTERS", "WORDS", "is_name", "MOST_TESTED", "MOST_ARGUMENTS", "MOST_PAIRS", "MOST_KEYS", "MOST_MEASURES", "MOST_DEEP", "check_where", "check_compute", "check_equal"]
def loose1 : List PySem.Str := ["check_keep", "check_distinct", "check_group", "check_join", "check_pairs", "check_union", "_refuse", "_has_strange", "_has_measure", "_is_sum", "MOST_DEALT", "PLAIN_LIES", "Table", "_fault_of", "_are_unlike", "_is_dealt", "_row_of", "scan", "Step", "_tuples"]
def loose2 : List PySem.Str := ["_law_pen", "_law_draw", "_law_pick", "_law_some", "_law_base", "_law_pairs", "_law_two", "_law_right"]
def looseN : List PySem.Str := loose0 ++ loose1 ++ loose2

end Pf
namespace Hd
open PySem PySem.Spec PyProof.Rows L2
def clsIntB (K : PySem.W.Frag) (c f : Str) (i : Int) : Bool := match PySem.W.findCls K (.ref (He.ga K c)) (.type "type") f with
  | some (.val (.int j _)) => decide (i = j)
  | _ => false
theorem clsIntB_ok {K : PySem.W.Frag} {c f : Str} {i : Int} (h : clsIntB K c f i = true) : ∃ u, ClX.CVal K (He.ga K c) (.type "type") f (.int i) u := by
  unfold clsIntB at h
  split at h
  · rename_i j t q
    exact ⟨_, q, ⟨t, by rw [of_decide_eq_true h]⟩⟩
  · cases h
end Hd
namespace Pf
open PySem PySem.Spec PyProof.Rows L2
def wordsD : List He.Dv := [.str "table", .str "key", .str "dealt", .str "anyhow", .str "copied", .str "zero", .str "scan", .str "where", .str "compute", .str "equal", .str "keep", .str "distinct", .str "group", .str "with", .str "count", .str "sum", .str "sort", .str "own", .str "split", .str "broadcast", .str "gather", .str "merge", .str "join", .str "semi", .str "anti", .str "union", .str "answer", .str "in", .str "self"]
def ex (K : PySem.W.Frag) : Bool := (Hd.insB "Table" K && (Hd.kitsB "Table" ["NoneType", "bool", "int", "str", "list", "tuple", "dict"] K && (Hd.attB "Table" "__ne__" (.builtin "object.__ne__") K && (He.tupB K "WORDS" wordsD && (He.tupB K "PLAIN_LIES" [.adr (Hd.itAt "PLAIN_LIES" 0), .adr (Hd.itAt "PLAIN_LIES" 1), .adr (Hd.itAt "PLAIN_LIES" 2)] && (Hd.tupAtB K (Hd.itAt "PLAIN_LIES" 0 K) [.str "copied"] && (Hd.tupAtB K (Hd.itAt "PLAIN_LIES" 1 K) [.str "anyhow"] && (Hd.tupAtB K (Hd.itAt "PLAIN_LIES" 2 K) [.str "zero"] && (Hd.tupAtB K (Hd.kwAt ("Table", some "__init__") "key" K) [] && (Hd.tupAtB K (Hd.kwAt ("Table", some "__init__") "lies" K) [.str "anyhow"] && (PySem.W.readsIn K (He.ga K "Table") (.type "type") && (He.eqO (PySem.W.specialIn K (.ref (He.ga K "Table")) "__getattribute__") (some (some (.builtin "type.__getattribute__"))) && (Hd.clsIntB K "Table" "MOST_COLUMNS" 8 && (Hd.insB "Step" K && (Hd.kitsB "Step" ["NoneType", "bool", "int", "str", "list", "tuple", "dict"] K && (Hd.tupAtB K (Hd.kwAt ("Step", some "__init__") "named" K) [] && (Hd.tupAtB K (Hd.kwAt ("Step", some "__init__") "pairs" K) [] && (Hd.tupAtB K (Hd.kwAt ("Step", some "__init__") "sums" K) [] && (PySem.W.selfFirst K (He.ga K "Step") && true)))))))))))))))))))
/-- what the head tells -/
structure Tx (K : PySem.W.Frag) (mg : Str → Option Value) : Prop where
  says : Hd.Says fa ex defs K
  glo : ∀ x, He.Fa.glo x ∈ fa → mg x = some (.ref (He.ga K x))
  fre : ∀ x, He.Fa.free x ∈ fa → mg x = none
  cin : ∀ x i, He.Fa.int x i ∈ fa → ∃ t, mg x = some (.int i t)
  cst : ∀ x z, He.Fa.str x z ∈ fa → ∃ t, mg x = some (.str z t)
section
variable {K : PySem.W.Frag} {mg : Str → Option Value}
theorem g_PlanError (T : Tx K mg) : mg "PlanError" = some (.ref (He.ga K "PlanError")) := T.glo _ (List.mem_of_getElem? (i := 0) rfl)
theorem g_InputError (T : Tx K mg) : mg "InputError" = some (.ref (He.ga K "InputError")) := T.glo _ (List.mem_of_getElem? (i := 1) rfl)
theorem g_InvalidTable (T : Tx K mg) : mg "InvalidTable" = some (.ref (He.ga K "InvalidTable")) := T.glo _ (List.mem_of_getElem? (i := 2) rfl)
theorem g_InvalidStep (T : Tx K mg) : mg "InvalidStep" = some (.ref (He.ga K "InvalidStep")) := T.glo _ (List.mem_of_getElem? (i := 3) rfl)
theorem g_has_twice (T : Tx K mg) : mg "has_twice" = some (.ref (He.ga K "has_twice")) := T.glo _ (List.mem_of_getElem? (i := 4) rfl)
theorem g_is_name (T : Tx K mg) : mg "is_name" = some (.ref (He.ga K "is_name")) := T.glo _ (List.mem_of_getElem? (i := 5) rfl)
theorem g_check_where (T : Tx K mg) : mg "check_where" = some (.ref (He.ga K "check_where")) := T.glo _ (List.mem_of_getElem? (i := 6) rfl)
theorem g_check_compute (T : Tx K mg) : mg "check_compute" = some (.ref (He.ga K "check_compute")) := T.glo _ (List.mem_of_getElem? (i := 7) rfl)
theorem g_check_equal (T : Tx K mg) : mg "check_equal" = some (.ref (He.ga K "check_equal")) := T.glo _ (List.mem_of_getElem? (i := 8) rfl)
theorem g_check_keep (T : Tx K mg) : mg "check_keep" = some (.ref (He.ga K "check_keep")) := T.glo _ (List.mem_of_getElem? (i := 9) rfl)
theorem g_check_distinct (T : Tx K mg) : mg "check_distinct" = some (.ref (He.ga K "check_distinct")) := T.glo _ (List.mem_of_getElem? (i := 10) rfl)
theorem g_check_group (T : Tx K mg) : mg "check_group" = some (.ref (He.ga K "check_group")) := T.glo _ (List.mem_of_getElem? (i := 11) rfl)
theorem g_check_join (T : Tx K mg) : mg "check_join" = some (.ref (He.ga K "check_join")) := T.glo _ (List.mem_of_getElem? (i := 12) rfl)
theorem g_check_pairs (T : Tx K mg) : mg "check_pairs" = some (.ref (He.ga K "check_pairs")) := T.glo _ (List.mem_of_getElem? (i := 13) rfl)
theorem g_check_union (T : Tx K mg) : mg "check_union" = some (.ref (He.ga K "check_union")) := T.glo _ (List.mem_of_getElem? (i := 14) rfl)
theorem g_refuse (T : Tx K mg) : mg "_refuse" = some (.ref (He.ga K "_refuse")) := T.glo _ (List.mem_of_getElem? (i := 15) rfl)
theorem g_has_strange (T : Tx K mg) : mg "_has_strange" = some (.ref (He.ga K "_has_strange")) := T.glo _ (List.mem_of_getElem? (i := 16) rfl)
theorem g_has_measure (T : Tx K mg) : mg "_has_measure" = some (.ref (He.ga K "_has_measure")) := T.glo _ (List.mem_of_getElem? (i := 17) rfl)
theorem g_is_sum (T : Tx K mg) : mg "_is_sum" = some (.ref (He.ga K "_is_sum")) := T.glo _ (List.mem_of_getElem? (i := 18) rfl)
theorem g_Table (T : Tx K mg) : mg "Table" = some (.ref (He.ga K "Table")) := T.glo _ (List.mem_of_getElem? (i := 19) rfl)
theorem g_fault_of (T : Tx K mg) : mg "_fault_of" = some (.ref (He.ga K "_fault_of")) := T.glo _ (List.mem_of_getElem? (i := 20) rfl)
theorem g_are_unlike (T : Tx K mg) : mg "_are_unlike" = some (.ref (He.ga K "_are_unlike")) := T.glo _ (List.mem_of_getElem? (i := 21) rfl)
theorem g_is_dealt (T : Tx K mg) : mg "_is_dealt" = some (.ref (He.ga K "_is_dealt")) := T.glo _ (List.mem_of_getElem? (i := 22) rfl)
theorem g_row_of (T : Tx K mg) : mg "_row_of" = some (.ref (He.ga K "_row_of")) := T.glo _ (List.mem_of_getElem? (i := 23) rfl)
theorem g_scan (T : Tx K mg) : mg "scan" = some (.ref (He.ga K "scan")) := T.glo _ (List.mem_of_getElem? (i := 24) rfl)
theorem g_Step (T : Tx K mg) : mg "Step" = some (.ref (He.ga K "Step")) := T.glo _ (List.mem_of_getElem? (i := 25) rfl)
theorem g_tuples (T : Tx K mg) : mg "_tuples" = some (.ref (He.ga K "_tuples")) := T.glo _ (List.mem_of_getElem? (i := 26) rfl)
theorem g_law_pen (T : Tx K mg) : mg "_law_pen" = some (.ref (He.ga K "_law_pen")) := T.glo _ (List.mem_of_getElem? (i := 27) rfl)
theorem g_law_draw (T : Tx K mg) : mg "_law_draw" = some (.ref (He.ga K "_law_draw")) := T.glo _ (List.mem_of_getElem? (i := 28) rfl)
theorem g_law_pick (T : Tx K mg) : mg "_law_pick" = some (.ref (He.ga K "_law_pick")) := T.glo _ (List.mem_of_getElem? (i := 29) rfl)
theorem g_law_some (T : Tx K mg) : mg "_law_some" = some (.ref (He.ga K "_law_some")) := T.glo _ (List.mem_of_getElem? (i := 30) rfl)
theorem g_law_base (T : Tx K mg) : mg "_law_base" = some (.ref (He.ga K "_law_base")) := T.glo _ (List.mem_of_getElem? (i := 31) rfl)
theorem g_law_pairs (T : Tx K mg) : mg "_law_pairs" = some (.ref (He.ga K "_law_pairs")) := T.glo _ (List.mem_of_getElem? (i := 32) rfl)
theorem g_law_two (T : Tx K mg) : mg "_law_two" = some (.ref (He.ga K "_law_two")) := T.glo _ (List.mem_of_getElem? (i := 33) rfl)
theorem g_law_right (T : Tx K mg) : mg "_law_right" = some (.ref (He.ga K "_law_right")) := T.glo _ (List.mem_of_getElem? (i := 34) rfl)
theorem g_law (T : Tx K mg) : mg "law" = some (.ref (He.ga K "law")) := T.glo _ (List.mem_of_getElem? (i := 35) rfl)
theorem z_abs (T : Tx K mg) : mg "abs" = none := T.fre _ (List.mem_of_getElem? (i := 36) rfl)
theorem z_all (T : Tx K mg) : mg "all" = none := T.fre _ (List.mem_of_getElem? (i := 37) rfl)
theorem z_any (T : Tx K mg) : mg "any" = none := T.fre _ (List.mem_of_getElem? (i := 38) rfl)
theorem z_int (T : Tx K mg) : mg "int" = none := T.fre _ (List.mem_of_getElem? (i := 39) rfl)
theorem z_isinstance (T : Tx K mg) : mg "isinstance" = none := T.fre _ (List.mem_of_getElem? (i := 40) rfl)
theorem z_len (T : Tx K mg) : mg "len" = none := T.fre _ (List.mem_of_getElem? (i := 41) rfl)
theorem z_list (T : Tx K mg) : mg "list" = none := T.fre _ (List.mem_of_getElem? (i := 42) rfl)
theorem z_max (T : Tx K mg) : mg "max" = none := T.fre _ (List.mem_of_getElem? (i := 43) rfl)
theorem z_min (T : Tx K mg) : mg "min" = none := T.fre _ (List.mem_of_getElem? (i := 44) rfl)
theorem z_range (T : Tx K mg) : mg "range" = none := T.fre _ (List.mem_of_getElem? (i := 45) rfl)
theorem z_set (T : Tx K mg) : mg "set" = none := T.fre _ (List.mem_of_getElem? (i := 46) rfl)
theorem z_str (T : Tx K mg) : mg "str" = none := T.fre _ (List.mem_of_getElem? (i := 47) rfl)
theorem z_tuple (T : Tx K mg) : mg "tuple" = none := T.fre _ (List.mem_of_getElem? (i := 48) rfl)
theorem z_zip (T : Tx K mg) : mg "zip" = none := T.fre _ (List.mem_of_getElem? (i := 49) rfl)
theorem g_WORDS (T : Tx K mg) : mg "WORDS" = some (.ref (He.ga K "WORDS")) := T.glo _ (List.mem_of_getElem? (i := 50) rfl)
theorem g_PLAIN_LIES (T : Tx K mg) : mg "PLAIN_LIES" = some (.ref (He.ga K "PLAIN_LIES")) := T.glo _ (List.mem_of_getElem? (i := 51) rfl)
theorem ci_MOST_CHARACTERS (T : Tx K mg) : ∃ t, mg "MOST_CHARACTERS" = some (.int 8 t) := T.cin _ _ (List.mem_of_getElem? (i := 52) rfl)
theorem ci_MOST_DEALT (T : Tx K mg) : ∃ t, mg "MOST_DEALT" = some (.int 3 t) := T.cin _ _ (List.mem_of_getElem? (i := 53) rfl)
theorem ci_MOST_TESTED (T : Tx K mg) : ∃ t, mg "MOST_TESTED" = some (.int 8 t) := T.cin _ _ (List.mem_of_getElem? (i := 54) rfl)
theorem ci_MOST_ARGUMENTS (T : Tx K mg) : ∃ t, mg "MOST_ARGUMENTS" = some (.int 3 t) := T.cin _ _ (List.mem_of_getElem? (i := 55) rfl)
theorem ci_MOST_KEYS (T : Tx K mg) : ∃ t, mg "MOST_KEYS" = some (.int 4 t) := T.cin _ _ (List.mem_of_getElem? (i := 56) rfl)
theorem ci_MOST_MEASURES (T : Tx K mg) : ∃ t, mg "MOST_MEASURES" = some (.int 3 t) := T.cin _ _ (List.mem_of_getElem? (i := 57) rfl)
theorem ci_MOST_DEEP (T : Tx K mg) : ∃ t, mg "MOST_DEEP" = some (.int 3 t) := T.cin _ _ (List.mem_of_getElem? (i := 58) rfl)
theorem ci_MOST_PAIRS (T : Tx K mg) : ∃ t, mg "MOST_PAIRS" = some (.int 3 t) := T.cin _ _ (List.mem_of_getElem? (i := 59) rfl)
theorem cs_LETTERS (T : Tx K mg) : ∃ t, mg "LETTERS" = some (.str "abcdefghijklmnopqrstuvwxyz" t) := T.cst _ _ (List.mem_of_getElem? (i := 60) rfl)
theorem cs_CHARACTERS (T : Tx K mg) : ∃ t, mg "CHARACTERS" = some (.str "abcdefghijklmnopqrstuvwxyz0123456789_" t) := T.cst _ _ (List.mem_of_getElem? (i := 61) rfl)
theorem cls_Table_ (T : Tx K mg) : Cls K (He.ga K "Table") := He.cls_ok (T.says.fact (List.mem_of_getElem? (i := 62) rfl))
theorem mkr_Table_ (T : Tx K mg) : Mk K (He.ga K "Table") (He.ma K (He.ga K "Table") "__init__") := He.mkr_ok (T.says.fact (List.mem_of_getElem? (i := 63) rfl))
theorem noat_Table_name (T : Tx K mg) : NoAttr K (He.ga K "Table") "name" := He.noat_ok (T.says.fact (List.mem_of_getElem? (i := 64) rfl))
theorem noat_Table_columns (T : Tx K mg) : NoAttr K (He.ga K "Table") "columns" := He.noat_ok (T.says.fact (List.mem_of_getElem? (i := 65) rfl))
theorem noat_Table_key (T : Tx K mg) : NoAttr K (He.ga K "Table") "key" := He.noat_ok (T.says.fact (List.mem_of_getElem? (i := 66) rfl))
theorem noat_Table_lies (T : Tx K mg) : NoAttr K (He.ga K "Table") "lies" := He.noat_ok (T.says.fact (List.mem_of_getElem? (i := 67) rfl))
theorem noat_Table_text (T : Tx K mg) : NoAttr K (He.ga K "Table") "text" := He.noat_ok (T.says.fact (List.mem_of_getElem? (i := 68) rfl))
theorem meth_Table_init (T : Tx K mg) : Meth K (He.ga K "Table") "__init__" (He.ma K (He.ga K "Table") "__init__") := He.meth_ok (T.says.fact (List.mem_of_getElem? (i := 69) rfl))
theorem meth_Table_eq (T : Tx K mg) : Meth K (He.ga K "Table") "__eq__" (He.ma K (He.ga K "Table") "__eq__") := He.meth_ok (T.says.fact (List.mem_of_getElem? (i := 70) rfl))
theorem meth_Table_str (T : Tx K mg) : Meth K (He.ga K "Table") "__str__" (He.ma K (He.ga K "Table") "__str__") := He.meth_ok (T.says.fact (List.mem_of_getElem? (i := 71) rfl))
theorem cls_Step_ (T : Tx K mg) : Cls K (He.ga K "Step") := He.cls_ok (T.says.fact (List.mem_of_getElem? (i := 72) rfl))
theorem mkr_Step_ (T : Tx K mg) : Mk K (He.ga K "Step") (He.ma K (He.ga K "Step") "__init__") := He.mkr_ok (T.says.fact (List.mem_of_getElem? (i := 73) rfl))
theorem noat_Step_kind (T : Tx K mg) : NoAttr K (He.ga K "Step") "kind" := He.noat_ok (T.says.fact (List.mem_of_getElem? (i := 74) rfl))
theorem noat_Step_inputs (T : Tx K mg) : NoAttr K (He.ga K "Step") "inputs" := He.noat_ok (T.says.fact (List.mem_of_getElem? (i := 75) rfl))
theorem noat_Step_columns (T : Tx K mg) : NoAttr K (He.ga K "Step") "columns" := He.noat_ok (T.says.fact (List.mem_of_getElem? (i := 76) rfl))
theorem noat_Step_measures (T : Tx K mg) : NoAttr K (He.ga K "Step") "measures" := He.noat_ok (T.says.fact (List.mem_of_getElem? (i := 77) rfl))
theorem noat_Step_depths (T : Tx K mg) : NoAttr K (He.ga K "Step") "depths" := He.noat_ok (T.says.fact (List.mem_of_getElem? (i := 78) rfl))
theorem noat_Step_table (T : Tx K mg) : NoAttr K (He.ga K "Step") "table" := He.noat_ok (T.says.fact (List.mem_of_getElem? (i := 79) rfl))
theorem noat_Step_name (T : Tx K mg) : NoAttr K (He.ga K "Step") "name" := He.noat_ok (T.says.fact (List.mem_of_getElem? (i := 80) rfl))
theorem noat_Step_new (T : Tx K mg) : NoAttr K (He.ga K "Step") "new" := He.noat_ok (T.says.fact (List.mem_of_getElem? (i := 81) rfl))
theorem noat_Step_named (T : Tx K mg) : NoAttr K (He.ga K "Step") "named" := He.noat_ok (T.says.fact (List.mem_of_getElem? (i := 82) rfl))
theorem noat_Step_pairs (T : Tx K mg) : NoAttr K (He.ga K "Step") "pairs" := He.noat_ok (T.says.fact (List.mem_of_getElem? (i := 83) rfl))
theorem noat_Step_sums (T : Tx K mg) : NoAttr K (He.ga K "Step") "sums" := He.noat_ok (T.says.fact (List.mem_of_getElem? (i := 84) rfl))
theorem meth_Step_init (T : Tx K mg) : Meth K (He.ga K "Step") "__init__" (He.ma K (He.ga K "Step") "__init__") := He.meth_ok (T.says.fact (List.mem_of_getElem? (i := 85) rfl))
theorem meth_Step_where (T : Tx K mg) : Meth K (He.ga K "Step") "where" (He.ma K (He.ga K "Step") "where") := He.meth_ok (T.says.fact (List.mem_of_getElem? (i := 86) rfl))
theorem meth_Step_compute (T : Tx K mg) : Meth K (He.ga K "Step") "compute" (He.ma K (He.ga K "Step") "compute") := He.meth_ok (T.says.fact (List.mem_of_getElem? (i := 87) rfl))
theorem meth_Step_equal (T : Tx K mg) : Meth K (He.ga K "Step") "equal" (He.ma K (He.ga K "Step") "equal") := He.meth_ok (T.says.fact (List.mem_of_getElem? (i := 88) rfl))
theorem meth_Step_keep (T : Tx K mg) : Meth K (He.ga K "Step") "keep" (He.ma K (He.ga K "Step") "keep") := He.meth_ok (T.says.fact (List.mem_of_getElem? (i := 89) rfl))
theorem meth_Step_distinct (T : Tx K mg) : Meth K (He.ga K "Step") "distinct" (He.ma K (He.ga K "Step") "distinct") := He.meth_ok (T.says.fact (List.mem_of_getElem? (i := 90) rfl))
theorem meth_Step_group_by (T : Tx K mg) : Meth K (He.ga K "Step") "group_by" (He.ma K (He.ga K "Step") "group_by") := He.meth_ok (T.says.fact (List.mem_of_getElem? (i := 91) rfl))
theorem meth_Step_sort_by (T : Tx K mg) : Meth K (He.ga K "Step") "sort_by" (He.ma K (He.ga K "Step") "sort_by") := He.meth_ok (T.says.fact (List.mem_of_getElem? (i := 92) rfl))
theorem meth_Step_own_by (T : Tx K mg) : Meth K (He.ga K "Step") "own_by" (He.ma K (He.ga K "Step") "own_by") := He.meth_ok (T.says.fact (List.mem_of_getElem? (i := 93) rfl))
theorem meth_Step_split_by (T : Tx K mg) : Meth K (He.ga K "Step") "split_by" (He.ma K (He.ga K "Step") "split_by") := He.meth_ok (T.says.fact (List.mem_of_getElem? (i := 94) rfl))
theorem meth_Step_broadcast (T : Tx K mg) : Meth K (He.ga K "Step") "broadcast" (He.ma K (He.ga K "Step") "broadcast") := He.meth_ok (T.says.fact (List.mem_of_getElem? (i := 95) rfl))
theorem meth_Step_gather (T : Tx K mg) : Meth K (He.ga K "Step") "gather" (He.ma K (He.ga K "Step") "gather") := He.meth_ok (T.says.fact (List.mem_of_getElem? (i := 96) rfl))
theorem meth_Step_merge_by (T : Tx K mg) : Meth K (He.ga K "Step") "merge_by" (He.ma K (He.ga K "Step") "merge_by") := He.meth_ok (T.says.fact (List.mem_of_getElem? (i := 97) rfl))
theorem meth_Step_alike (T : Tx K mg) : Meth K (He.ga K "Step") "_alike" (He.ma K (He.ga K "Step") "_alike") := He.meth_ok (T.says.fact (List.mem_of_getElem? (i := 98) rfl))
theorem meth_Step_grouped (T : Tx K mg) : Meth K (He.ga K "Step") "_grouped" (He.ma K (He.ga K "Step") "_grouped") := He.meth_ok (T.says.fact (List.mem_of_getElem? (i := 99) rfl))
theorem meth_Step_join_with (T : Tx K mg) : Meth K (He.ga K "Step") "join_with" (He.ma K (He.ga K "Step") "join_with") := He.meth_ok (T.says.fact (List.mem_of_getElem? (i := 100) rfl))
theorem meth_Step_semi_with (T : Tx K mg) : Meth K (He.ga K "Step") "semi_with" (He.ma K (He.ga K "Step") "semi_with") := He.meth_ok (T.says.fact (List.mem_of_getElem? (i := 101) rfl))
theorem meth_Step_anti_with (T : Tx K mg) : Meth K (He.ga K "Step") "anti_with" (He.ma K (He.ga K "Step") "anti_with") := He.meth_ok (T.says.fact (List.mem_of_getElem? (i := 102) rfl))
theorem meth_Step_add (T : Tx K mg) : Meth K (He.ga K "Step") "__add__" (He.ma K (He.ga K "Step") "__add__") := He.meth_ok (T.says.fact (List.mem_of_getElem? (i := 103) rfl))
theorem exr_0 (T : Tx K mg) : (Hd.insB "Table" K && (Hd.kitsB "Table" ["NoneType", "bool", "int", "str", "list", "tuple", "dict"] K && (Hd.attB "Table" "__ne__" (.builtin "object.__ne__") K && (He.tupB K "WORDS" wordsD && (He.tupB K "PLAIN_LIES" [.adr (Hd.itAt "PLAIN_LIES" 0), .adr (Hd.itAt "PLAIN_LIES" 1), .adr (Hd.itAt "PLAIN_LIES" 2)] && (Hd.tupAtB K (Hd.itAt "PLAIN_LIES" 0 K) [.str "copied"] && (Hd.tupAtB K (Hd.itAt "PLAIN_LIES" 1 K) [.str "anyhow"] && (Hd.tupAtB K (Hd.itAt "PLAIN_LIES" 2 K) [.str "zero"] && (Hd.tupAtB K (Hd.kwAt ("Table", some "__init__") "key" K) [] && (Hd.tupAtB K (Hd.kwAt ("Table", some "__init__") "lies" K) [.str "anyhow"] && (PySem.W.readsIn K (He.ga K "Table") (.type "type") && (He.eqO (PySem.W.specialIn K (.ref (He.ga K "Table")) "__getattribute__") (some (some (.builtin "type.__getattribute__"))) && (Hd.clsIntB K "Table" "MOST_COLUMNS" 8 && (Hd.insB "Step" K && (Hd.kitsB "Step" ["NoneType", "bool", "int", "str", "list", "tuple", "dict"] K && (Hd.tupAtB K (Hd.kwAt ("Step", some "__init__") "named" K) [] && (Hd.tupAtB K (Hd.kwAt ("Step", some "__init__") "pairs" K) [] && (Hd.tupAtB K (Hd.kwAt ("Step", some "__init__") "sums" K) [] && (PySem.W.selfFirst K (He.ga K "Step") && true))))))))))))))))))) = true := T.says.more
theorem ex_0 (T : Tx K mg) : Hd.insB "Table" K = true := (Bool.and_eq_true_iff.mp (exr_0 T)).1
theorem exr_1 (T : Tx K mg) : (Hd.kitsB "Table" ["NoneType", "bool", "int", "str", "list", "tuple", "dict"] K && (Hd.attB "Table" "__ne__" (.builtin "object.__ne__") K && (He.tupB K "WORDS" wordsD && (He.tupB K "PLAIN_LIES" [.adr (Hd.itAt "PLAIN_LIES" 0), .adr (Hd.itAt "PLAIN_LIES" 1), .adr (Hd.itAt "PLAIN_LIES" 2)] && (Hd.tupAtB K (Hd.itAt "PLAIN_LIES" 0 K) [.str "copied"] && (Hd.tupAtB K (Hd.itAt "PLAIN_LIES" 1 K) [.str "anyhow"] && (Hd.tupAtB K (Hd.itAt "PLAIN_LIES" 2 K) [.str "zero"] && (Hd.tupAtB K (Hd.kwAt ("Table", some "__init__") "key" K) [] && (Hd.tupAtB K (Hd.kwAt ("Table", some "__init__") "lies" K) [.str "anyhow"] && (PySem.W.readsIn K (He.ga K "Table") (.type "type") && (He.eqO (PySem.W.specialIn K (.ref (He.ga K "Table")) "__getattribute__") (some (some (.builtin "type.__getattribute__"))) && (Hd.clsIntB K "Table" "MOST_COLUMNS" 8 && (Hd.insB "Step" K && (Hd.kitsB "Step" ["NoneType", "bool", "int", "str", "list", "tuple", "dict"] K && (Hd.tupAtB K (Hd.kwAt ("Step", some "__init__") "named" K) [] && (Hd.tupAtB K (Hd.kwAt ("Step", some "__init__") "pairs" K) [] && (Hd.tupAtB K (Hd.kwAt ("Step", some "__init__") "sums" K) [] && (PySem.W.selfFirst K (He.ga K "Step") && true)))))))))))))))))) = true := (Bool.and_eq_true_iff.mp (exr_0 T)).2
theorem ex_1 (T : Tx K mg) : Hd.kitsB "Table" ["NoneType", "bool", "int", "str", "list", "tuple", "dict"] K = true := (Bool.and_eq_true_iff.mp (exr_1 T)).1
theorem exr_2 (T : Tx K mg) : (Hd.attB "Table" "__ne__" (.builtin "object.__ne__") K && (He.tupB K "WORDS" wordsD && (He.tupB K "PLAIN_LIES" [.adr (Hd.itAt "PLAIN_LIES" 0), .adr (Hd.itAt "PLAIN_LIES" 1), .adr (Hd.itAt "PLAIN_LIES" 2)] && (Hd.tupAtB K (Hd.itAt "PLAIN_LIES" 0 K) [.str "copied"] && (Hd.tupAtB K (Hd.itAt "PLAIN_LIES" 1 K) [.str "anyhow"] && (Hd.tupAtB K (Hd.itAt "PLAIN_LIES" 2 K) [.str "zero"] && (Hd.tupAtB K (Hd.kwAt ("Table", some "__init__") "key" K) [] && (Hd.tupAtB K (Hd.kwAt ("Table", some "__init__") "lies" K) [.str "anyhow"] && (PySem.W.readsIn K (He.ga K "Table") (.type "type") && (He.eqO (PySem.W.specialIn K (.ref (He.ga K "Table")) "__getattribute__") (some (some (.builtin "type.__getattribute__"))) && (Hd.clsIntB K "Table" "MOST_COLUMNS" 8 && (Hd.insB "Step" K && (Hd.kitsB "Step" ["NoneType", "bool", "int", "str", "list", "tuple", "dict"] K && (Hd.tupAtB K (Hd.kwAt ("Step", some "__init__") "named" K) [] && (Hd.tupAtB K (Hd.kwAt ("Step", some "__init__") "pairs" K) [] && (Hd.tupAtB K (Hd.kwAt ("Step", some "__init__") "sums" K) [] && (PySem.W.selfFirst K (He.ga K "Step") && true))))))))))))))))) = true := (Bool.and_eq_true_iff.mp (exr_1 T)).2
theorem ex_2 (T : Tx K mg) : Hd.attB "Table" "__ne__" (.builtin "object.__ne__") K = true := (Bool.and_eq_true_iff.mp (exr_2 T)).1
theorem exr_3 (T : Tx K mg) : (He.tupB K "WORDS" wordsD && (He.tupB K "PLAIN_LIES" [.adr (Hd.itAt "PLAIN_LIES" 0), .adr (Hd.itAt "PLAIN_LIES" 1), .adr (Hd.itAt "PLAIN_LIES" 2)] && (Hd.tupAtB K (Hd.itAt "PLAIN_LIES" 0 K) [.str "copied"] && (Hd.tupAtB K (Hd.itAt "PLAIN_LIES" 1 K) [.str "anyhow"] && (Hd.tupAtB K (Hd.itAt "PLAIN_LIES" 2 K) [.str "zero"] && (Hd.tupAtB K (Hd.kwAt ("Table", some "__init__") "key" K) [] && (Hd.tupAtB K (Hd.kwAt ("Table", some "__init__") "lies" K) [.str "anyhow"] && (PySem.W.readsIn K (He.ga K "Table") (.type "type") && (He.eqO (PySem.W.specialIn K (.ref (He.ga K "Table")) "__getattribute__") (some (some (.builtin "type.__getattribute__"))) && (Hd.clsIntB K "Table" "MOST_COLUMNS" 8 && (Hd.insB "Step" K && (Hd.kitsB "Step" ["NoneType", "bool", "int", "str", "list", "tuple", "dict"] K && (Hd.tupAtB K (Hd.kwAt ("Step", some "__init__") "named" K) [] && (Hd.tupAtB K (Hd.kwAt ("Step", some "__init__") "pairs" K) [] && (Hd.tupAtB K (Hd.kwAt ("Step", some "__init__") "sums" K) [] && (PySem.W.selfFirst K (He.ga K "Step") && true)))))))))))))))) = true := (Bool.and_eq_true_iff.mp (exr_2 T)).2
theorem ex_3 (T : Tx K mg) : He.tupB K "WORDS" wordsD = true := (Bool.and_eq_true_iff.mp (exr_3 T)).1
theorem exr_4 (T : Tx K mg) : (He.tupB K "PLAIN_LIES" [.adr (Hd.itAt "PLAIN_LIES" 0), .adr (Hd.itAt "PLAIN_LIES" 1), .adr (Hd.itAt "PLAIN_LIES" 2)] && (Hd.tupAtB K (Hd.itAt "PLAIN_LIES" 0 K) [.str "copied"] && (Hd.tupAtB K (Hd.itAt "PLAIN_LIES" 1 K) [.str "anyhow"] && (Hd.tupAtB K (Hd.itAt "PLAIN_LIES" 2 K) [.str "zero"] && (Hd.tupAtB K (Hd.kwAt ("Table", some "__init__") "key" K) [] && (Hd.tupAtB K (Hd.kwAt ("Table", some "__init__") "lies" K) [.str "anyhow"] && (PySem.W.readsIn K (He.ga K "Table") (.type "type") && (He.eqO (PySem.W.specialIn K (.ref (He.ga K "Table")) "__getattribute__") (some (some (.builtin "type.__getattribute__"))) && (Hd.clsIntB K "Table" "MOST_COLUMNS" 8 && (Hd.insB "Step" K && (Hd.kitsB "Step" ["NoneType", "bool", "int", "str", "list", "tuple", "dict"] K && (Hd.tupAtB K (Hd.kwAt ("Step", some "__init__") "named" K) [] && (Hd.tupAtB K (Hd.kwAt ("Step", some "__init__") "pairs" K) [] && (Hd.tupAtB K (Hd.kwAt ("Step", some "__init__") "sums" K) [] && (PySem.W.selfFirst K (He.ga K "Step") && true))))))))))))))) = true := (Bool.and_eq_true_iff.mp (exr_3 T)).2
theorem ex_4 (T : Tx K mg) : He.tupB K "PLAIN_LIES" [.adr (Hd.itAt "PLAIN_LIES" 0), .adr (Hd.itAt "PLAIN_LIES" 1), .adr (Hd.itAt "PLAIN_LIES" 2)] = true := (Bool.and_eq_true_iff.mp (exr_4 T)).1
theorem exr_5 (T : Tx K mg) : (Hd.tupAtB K (Hd.itAt "PLAIN_LIES" 0 K) [.str "copied"] && (Hd.tupAtB K (Hd.itAt "PLAIN_LIES" 1 K) [.str "anyhow"] && (Hd.tupAtB K (Hd.itAt "PLAIN_LIES" 2 K) [.str "zero"] && (Hd.tupAtB K (Hd.kwAt ("Table", some "__init__") "key" K) [] && (Hd.tupAtB K (Hd.kwAt ("Table", some "__init__") "lies" K) [.str "anyhow"] && (PySem.W.readsIn K (He.ga K "Table") (.type "type") && (He.eqO (PySem.W.specialIn K (.ref (He.ga K "Table")) "__getattribute__") (some (some (.builtin "type.__getattribute__"))) && (Hd.clsIntB K "Table" "MOST_COLUMNS" 8 && (Hd.insB "Step" K && (Hd.kitsB "Step" ["NoneType", "bool", "int", "str", "list", "tuple", "dict"] K && (Hd.tupAtB K (Hd.kwAt ("Step", some "__init__") "named" K) [] && (Hd.tupAtB K (Hd.kwAt ("Step", some "__init__") "pairs" K) [] && (Hd.tupAtB K (Hd.kwAt ("Step", some "__init__") "sums" K) [] && (PySem.W.selfFirst K (He.ga K "Step") && true)))))))))))))) = true := (Bool.and_eq_true_iff.mp (exr_4 T)).2
theorem ex_5 (T : Tx K mg) : Hd.tupAtB K (Hd.itAt "PLAIN_LIES" 0 K) [.str "copied"] = true := (Bool.and_eq_true_iff.mp (exr_5 T)).1
theorem exr_6 (T : Tx K mg) : (Hd.tupAtB K (Hd.itAt "PLAIN_LIES" 1 K) [.str "anyhow"] && (Hd.tupAtB K (Hd.itAt "PLAIN_LIES" 2 K) [.str "zero"] && (Hd.tupAtB K (Hd.kwAt ("Table", some "__init__") "key" K) [] && (Hd.tupAtB K (Hd.kwAt ("Table", some "__init__") "lies" K) [.str "anyhow"] && (PySem.W.readsIn K (He.ga K "Table") (.type "type") && (He.eqO (PySem.W.specialIn K (.ref (He.ga K "Table")) "__getattribute__") (some (some (.builtin "type.__getattribute__"))) && (Hd.clsIntB K "Table" "MOST_COLUMNS" 8 && (Hd.insB "Step" K && (Hd.kitsB "Step" ["NoneType", "bool", "int", "str", "list", "tuple", "dict"] K && (Hd.tupAtB K (Hd.kwAt ("Step", some "__init__") "named" K) [] && (Hd.tupAtB K (Hd.kwAt ("Step", some "__init__") "pairs" K) [] && (Hd.tupAtB K (Hd.kwAt ("Step", some "__init__") "sums" K) [] && (PySem.W.selfFirst K (He.ga K "Step") && true))))))))))))) = true := (Bool.and_eq_true_iff.mp (exr_5 T)).2
theorem ex_6 (T : Tx K mg) : Hd.tupAtB K (Hd.itAt "PLAIN_LIES" 1 K) [.str "anyhow"] = true := (Bool.and_eq_true_iff.mp (exr_6 T)).1
theorem exr_7 (T : Tx K mg) : (Hd.tupAtB K (Hd.itAt "PLAIN_LIES" 2 K) [.str "zero"] && (Hd.tupAtB K (Hd.kwAt ("Table", some "__init__") "key" K) [] && (Hd.tupAtB K (Hd.kwAt ("Table", some "__init__") "lies" K) [.str "anyhow"] && (PySem.W.readsIn K (He.ga K "Table") (.type "type") && (He.eqO (PySem.W.specialIn K (.ref (He.ga K "Table")) "__getattribute__") (some (some (.builtin "type.__getattribute__"))) && (Hd.clsIntB K "Table" "MOST_COLUMNS" 8 && (Hd.insB "Step" K && (Hd.kitsB "Step" ["NoneType", "bool", "int", "str", "list", "tuple", "dict"] K && (Hd.tupAtB K (Hd.kwAt ("Step", some "__init__") "named" K) [] && (Hd.tupAtB K (Hd.kwAt ("Step", some "__init__") "pairs" K) [] && (Hd.tupAtB K (Hd.kwAt ("Step", some "__init__") "sums" K) [] && (PySem.W.selfFirst K (He.ga K "Step") && true)))))))))))) = true := (Bool.and_eq_true_iff.mp (exr_6 T)).2
theorem ex_7 (T : Tx K mg) : Hd.tupAtB K (Hd.itAt "PLAIN_LIES" 2 K) [.str "zero"] = true := (Bool.and_eq_true_iff.mp (exr_7 T)).1
theorem exr_8 (T : Tx K mg) : (Hd.tupAtB K (Hd.kwAt ("Table", some "__init__") "key" K) [] && (Hd.tupAtB K (Hd.kwAt ("Table", some "__init__") "lies" K) [.str "anyhow"] && (PySem.W.readsIn K (He.ga K "Table") (.type "type") && (He.eqO (PySem.W.specialIn K (.ref (He.ga K "Table")) "__getattribute__") (some (some (.builtin "type.__getattribute__"))) && (Hd.clsIntB K "Table" "MOST_COLUMNS" 8 && (Hd.insB "Step" K && (Hd.kitsB "Step" ["NoneType", "bool", "int", "str", "list", "tuple", "dict"] K && (Hd.tupAtB K (Hd.kwAt ("Step", some "__init__") "named" K) [] && (Hd.tupAtB K (Hd.kwAt ("Step", some "__init__") "pairs" K) [] && (Hd.tupAtB K (Hd.kwAt ("Step", some "__init__") "sums" K) [] && (PySem.W.selfFirst K (He.ga K "Step") && true))))))))))) = true := (Bool.and_eq_true_iff.mp (exr_7 T)).2
theorem ex_8 (T : Tx K mg) : Hd.tupAtB K (Hd.kwAt ("Table", some "__init__") "key" K) [] = true := (Bool.and_eq_true_iff.mp (exr_8 T)).1
theorem exr_9 (T : Tx K mg) : (Hd.tupAtB K (Hd.kwAt ("Table", some "__init__") "lies" K) [.str "anyhow"] && (PySem.W.readsIn K (He.ga K "Table") (.type "type") && (He.eqO (PySem.W.specialIn K (.ref (He.ga K "Table")) "__getattribute__") (some (some (.builtin "type.__getattribute__"))) && (Hd.clsIntB K "Table" "MOST_COLUMNS" 8 && (Hd.insB "Step" K && (Hd.kitsB "Step" ["NoneType", "bool", "int", "str", "list", "tuple", "dict"] K && (Hd.tupAtB K (Hd.kwAt ("Step", some "__init__") "named" K) [] && (Hd.tupAtB K (Hd.kwAt ("Step", some "__init__") "pairs" K) [] && (Hd.tupAtB K (Hd.kwAt ("Step", some "__init__") "sums" K) [] && (PySem.W.selfFirst K (He.ga K "Step") && true)))))))))) = true := (Bool.and_eq_true_iff.mp (exr_8 T)).2
theorem ex_9 (T : Tx K mg) : Hd.tupAtB K (Hd.kwAt ("Table", some "__init__") "lies" K) [.str "anyhow"] = true := (Bool.and_eq_true_iff.mp (exr_9 T)).1
theorem exr_10 (T : Tx K mg) : (PySem.W.readsIn K (He.ga K "Table") (.type "type") && (He.eqO (PySem.W.specialIn K (.ref (He.ga K "Table")) "__getattribute__") (some (some (.builtin "type.__getattribute__"))) && (Hd.clsIntB K "Table" "MOST_COLUMNS" 8 && (Hd.insB "Step" K && (Hd.kitsB "Step" ["NoneType", "bool", "int", "str", "list", "tuple", "dict"] K && (Hd.tupAtB K (Hd.kwAt ("Step", some "__init__") "named" K) [] && (Hd.tupAtB K (Hd.kwAt ("Step", some "__init__") "pairs" K) [] && (Hd.tupAtB K (Hd.kwAt ("Step", some "__init__") "sums" K) [] && (PySem.W.selfFirst K (He.ga K "Step") && true))))))))) = true := (Bool.and_eq_true_iff.mp (exr_9 T)).2
theorem ex_10 (T : Tx K mg) : PySem.W.readsIn K (He.ga K "Table") (.type "type") = true := (Bool.and_eq_true_iff.mp (exr_10 T)).1
theorem exr_11 (T : Tx K mg) : (He.eqO (PySem.W.specialIn K (.ref (He.ga K "Table")) "__getattribute__") (some (some (.builtin "type.__getattribute__"))) && (Hd.clsIntB K "Table" "MOST_COLUMNS" 8 && (Hd.insB "Step" K && (Hd.kitsB "Step" ["NoneType", "bool", "int", "str", "list", "tuple", "dict"] K && (Hd.tupAtB K (Hd.kwAt ("Step", some "__init__") "named" K) [] && (Hd.tupAtB K (Hd.kwAt ("Step", some "__init__") "pairs" K) [] && (Hd.tupAtB K (Hd.kwAt ("Step", some "__init__") "sums" K) [] && (PySem.W.selfFirst K (He.ga K "Step") && true)))))))) = true := (Bool.and_eq_true_iff.mp (exr_10 T)).2
theorem ex_11 (T : Tx K mg) : He.eqO (PySem.W.specialIn K (.ref (He.ga K "Table")) "__getattribute__") (some (some (.builtin "type.__getattribute__"))) = true := (Bool.and_eq_true_iff.mp (exr_11 T)).1
theorem exr_12 (T : Tx K mg) : (Hd.clsIntB K "Table" "MOST_COLUMNS" 8 && (Hd.insB "Step" K && (Hd.kitsB "Step" ["NoneType", "bool", "int", "str", "list", "tuple", "dict"] K && (Hd.tupAtB K (Hd.kwAt ("Step", some "__init__") "named" K) [] && (Hd.tupAtB K (Hd.kwAt ("Step", some "__init__") "pairs" K) [] && (Hd.tupAtB K (Hd.kwAt ("Step", some "__init__") "sums" K) [] && (PySem.W.selfFirst K (He.ga K "Step") && true))))))) = true := (Bool.and_eq_true_iff.mp (exr_11 T)).2
theorem ex_12 (T : Tx K mg) : Hd.clsIntB K "Table" "MOST_COLUMNS" 8 = true := (Bool.and_eq_true_iff.mp (exr_12 T)).1
theorem exr_13 (T : Tx K mg) : (Hd.insB "Step" K && (Hd.kitsB "Step" ["NoneType", "bool", "int", "str", "list", "tuple", "dict"] K && (Hd.tupAtB K (Hd.kwAt ("Step", some "__init__") "named" K) [] && (Hd.tupAtB K (Hd.kwAt ("Step", some "__init__") "pairs" K) [] && (Hd.tupAtB K (Hd.kwAt ("Step", some "__init__") "sums" K) [] && (PySem.W.selfFirst K (He.ga K "Step") && true)))))) = true := (Bool.and_eq_true_iff.mp (exr_12 T)).2
theorem ex_13 (T : Tx K mg) : Hd.insB "Step" K = true := (Bool.and_eq_true_iff.mp (exr_13 T)).1
theorem exr_14 (T : Tx K mg) : (Hd.kitsB "Step" ["NoneType", "bool", "int", "str", "list", "tuple", "dict"] K && (Hd.tupAtB K (Hd.kwAt ("Step", some "__init__") "named" K) [] && (Hd.tupAtB K (Hd.kwAt ("Step", some "__init__") "pairs" K) [] && (Hd.tupAtB K (Hd.kwAt ("Step", some "__init__") "sums" K) [] && (PySem.W.selfFirst K (He.ga K "Step") && true))))) = true := (Bool.and_eq_true_iff.mp (exr_13 T)).2
theorem ex_14 (T : Tx K mg) : Hd.kitsB "Step" ["NoneType", "bool", "int", "str", "list", "tuple", "dict"] K = true := (Bool.and_eq_true_iff.mp (exr_14 T)).1
theorem exr_15 (T : Tx K mg) : (Hd.tupAtB K (Hd.kwAt ("Step", some "__init__") "named" K) [] && (Hd.tupAtB K (Hd.kwAt ("Step", some "__init__") "pairs" K) [] && (Hd.tupAtB K (Hd.kwAt ("Step", some "__init__") "sums" K) [] && (PySem.W.selfFirst K (He.ga K "Step") && true)))) = true := (Bool.and_eq_true_iff.mp (exr_14 T)).2
theorem ex_15 (T : Tx K mg) : Hd.tupAtB K (Hd.kwAt ("Step", some "__init__") "named" K) [] = true := (Bool.and_eq_true_iff.mp (exr_15 T)).1
theorem exr_16 (T : Tx K mg) : (Hd.tupAtB K (Hd.kwAt ("Step", some "__init__") "pairs" K) [] && (Hd.tupAtB K (Hd.kwAt ("Step", some "__init__") "sums" K) [] && (PySem.W.selfFirst K (He.ga K "Step") && true))) = true := (Bool.and_eq_true_iff.mp (exr_15 T)).2
theorem ex_16 (T : Tx K mg) : Hd.tupAtB K (Hd.kwAt ("Step", some "__init__") "pairs" K) [] = true := (Bool.and_eq_true_iff.mp (exr_16 T)).1
theorem exr_17 (T : Tx K mg) : (Hd.tupAtB K (Hd.kwAt ("Step", some "__init__") "sums" K) [] && (PySem.W.selfFirst K (He.ga K "Step") && true)) = true := (Bool.and_eq_true_iff.mp (exr_16 T)).2
theorem ex_17 (T : Tx K mg) : Hd.tupAtB K (Hd.kwAt ("Step", some "__init__") "sums" K) [] = true := (Bool.and_eq_true_iff.mp (exr_17 T)).1
theorem exr_18 (T : Tx K mg) : (PySem.W.selfFirst K (He.ga K "Step") && true) = true := (Bool.and_eq_true_iff.mp (exr_17 T)).2
theorem ex_18 (T : Tx K mg) : PySem.W.selfFirst K (He.ga K "Step") = true := (Bool.and_eq_true_iff.mp (exr_18 T)).1
theorem f_has_twice (T : Tx K mg) : ∃ fd, FunD K d_has_twice.2.name d_has_twice.2.qual d_has_twice.2.params d_has_twice.2.body d_has_twice.2.scope (d_has_twice.2.dvs K) (d_has_twice.2.kws K) (d_has_twice.1 K) fd := T.says.fun_ 0 rfl
theorem f_is_name (T : Tx K mg) : ∃ fd, FunD K d_is_name.2.name d_is_name.2.qual d_is_name.2.params d_is_name.2.body d_is_name.2.scope (d_is_name.2.dvs K) (d_is_name.2.kws K) (d_is_name.1 K) fd := T.says.fun_ 1 rfl
theorem f_check_where (T : Tx K mg) : ∃ fd, FunD K d_check_where.2.name d_check_where.2.qual d_check_where.2.params d_check_where.2.body d_check_where.2.scope (d_check_where.2.dvs K) (d_check_where.2.kws K) (d_check_where.1 K) fd := T.says.fun_ 2 rfl
theorem f_check_compute (T : Tx K mg) : ∃ fd, FunD K d_check_compute.2.name d_check_compute.2.qual d_check_compute.2.params d_check_compute.2.body d_check_compute.2.scope (d_check_compute.2.dvs K) (d_check_compute.2.kws K) (d_check_compute.1 K) fd := T.says.fun_ 3 rfl
theorem f_check_equal (T : Tx K mg) : ∃ fd, FunD K d_check_equal.2.name d_check_equal.2.qual d_check_equal.2.params d_check_equal.2.body d_check_equal.2.scope (d_check_equal.2.dvs K) (d_check_equal.2.kws K) (d_check_equal.1 K) fd := T.says.fun_ 4 rfl
theorem f_check_keep (T : Tx K mg) : ∃ fd, FunD K d_check_keep.2.name d_check_keep.2.qual d_check_keep.2.params d_check_keep.2.body d_check_keep.2.scope (d_check_keep.2.dvs K) (d_check_keep.2.kws K) (d_check_keep.1 K) fd := T.says.fun_ 5 rfl
theorem f_check_distinct (T : Tx K mg) : ∃ fd, FunD K d_check_distinct.2.name d_check_distinct.2.qual d_check_distinct.2.params d_check_distinct.2.body d_check_distinct.2.scope (d_check_distinct.2.dvs K) (d_check_distinct.2.kws K) (d_check_distinct.1 K) fd := T.says.fun_ 6 rfl
theorem f_check_group (T : Tx K mg) : ∃ fd, FunD K d_check_group.2.name d_check_group.2.qual d_check_group.2.params d_check_group.2.body d_check_group.2.scope (d_check_group.2.dvs K) (d_check_group.2.kws K) (d_check_group.1 K) fd := T.says.fun_ 7 rfl
theorem f_check_join (T : Tx K mg) : ∃ fd, FunD K d_check_join.2.name d_check_join.2.qual d_check_join.2.params d_check_join.2.body d_check_join.2.scope (d_check_join.2.dvs K) (d_check_join.2.kws K) (d_check_join.1 K) fd := T.says.fun_ 8 rfl
theorem f_check_pairs (T : Tx K mg) : ∃ fd, FunD K d_check_pairs.2.name d_check_pairs.2.qual d_check_pairs.2.params d_check_pairs.2.body d_check_pairs.2.scope (d_check_pairs.2.dvs K) (d_check_pairs.2.kws K) (d_check_pairs.1 K) fd := T.says.fun_ 9 rfl
theorem f_check_union (T : Tx K mg) : ∃ fd, FunD K d_check_union.2.name d_check_union.2.qual d_check_union.2.params d_check_union.2.body d_check_union.2.scope (d_check_union.2.dvs K) (d_check_union.2.kws K) (d_check_union.1 K) fd := T.says.fun_ 10 rfl
theorem f_refuse (T : Tx K mg) : ∃ fd, FunD K d_refuse.2.name d_refuse.2.qual d_refuse.2.params d_refuse.2.body d_refuse.2.scope (d_refuse.2.dvs K) (d_refuse.2.kws K) (d_refuse.1 K) fd := T.says.fun_ 11 rfl
theorem f_has_strange (T : Tx K mg) : ∃ fd, FunD K d_has_strange.2.name d_has_strange.2.qual d_has_strange.2.params d_has_strange.2.body d_has_strange.2.scope (d_has_strange.2.dvs K) (d_has_strange.2.kws K) (d_has_strange.1 K) fd := T.says.fun_ 12 rfl
theorem f_has_measure (T : Tx K mg) : ∃ fd, FunD K d_has_measure.2.name d_has_measure.2.qual d_has_measure.2.params d_has_measure.2.body d_has_measure.2.scope (d_has_measure.2.dvs K) (d_has_measure.2.kws K) (d_has_measure.1 K) fd := T.says.fun_ 13 rfl
theorem f_is_sum (T : Tx K mg) : ∃ fd, FunD K d_is_sum.2.name d_is_sum.2.qual d_is_sum.2.params d_is_sum.2.body d_is_sum.2.scope (d_is_sum.2.dvs K) (d_is_sum.2.kws K) (d_is_sum.1 K) fd := T.says.fun_ 14 rfl
theorem f_Table_init (T : Tx K mg) : ∃ fd, FunD K d_Table_init.2.name d_Table_init.2.qual d_Table_init.2.params d_Table_init.2.body d_Table_init.2.scope (d_Table_init.2.dvs K) (d_Table_init.2.kws K) (d_Table_init.1 K) fd := T.says.fun_ 15 rfl
theorem f_Table_eq (T : Tx K mg) : ∃ fd, FunD K d_Table_eq.2.name d_Table_eq.2.qual d_Table_eq.2.params d_Table_eq.2.body d_Table_eq.2.scope (d_Table_eq.2.dvs K) (d_Table_eq.2.kws K) (d_Table_eq.1 K) fd := T.says.fun_ 16 rfl
theorem f_Table_str (T : Tx K mg) : ∃ fd, FunD K d_Table_str.2.name d_Table_str.2.qual d_Table_str.2.params d_Table_str.2.body d_Table_str.2.scope (d_Table_str.2.dvs K) (d_Table_str.2.kws K) (d_Table_str.1 K) fd := T.says.fun_ 17 rfl
theorem f_fault_of (T : Tx K mg) : ∃ fd, FunD K d_fault_of.2.name d_fault_of.2.qual d_fault_of.2.params d_fault_of.2.body d_fault_of.2.scope (d_fault_of.2.dvs K) (d_fault_of.2.kws K) (d_fault_of.1 K) fd := T.says.fun_ 18 rfl
theorem f_are_unlike (T : Tx K mg) : ∃ fd, FunD K d_are_unlike.2.name d_are_unlike.2.qual d_are_unlike.2.params d_are_unlike.2.body d_are_unlike.2.scope (d_are_unlike.2.dvs K) (d_are_unlike.2.kws K) (d_are_unlike.1 K) fd := T.says.fun_ 19 rfl
theorem f_is_dealt (T : Tx K mg) : ∃ fd, FunD K d_is_dealt.2.name d_is_dealt.2.qual d_is_dealt.2.params d_is_dealt.2.body d_is_dealt.2.scope (d_is_dealt.2.dvs K) (d_is_dealt.2.kws K) (d_is_dealt.1 K) fd := T.says.fun_ 20 rfl
theorem f_row_of (T : Tx K mg) : ∃ fd, FunD K d_row_of.2.name d_row_of.2.qual d_row_of.2.params d_row_of.2.body d_row_of.2.scope (d_row_of.2.dvs K) (d_row_of.2.kws K) (d_row_of.1 K) fd := T.says.fun_ 21 rfl
theorem f_scan (T : Tx K mg) : ∃ fd, FunD K d_scan.2.name d_scan.2.qual d_scan.2.params d_scan.2.body d_scan.2.scope (d_scan.2.dvs K) (d_scan.2.kws K) (d_scan.1 K) fd := T.says.fun_ 22 rfl
theorem f_Step_init (T : Tx K mg) : ∃ fd, FunD K d_Step_init.2.name d_Step_init.2.qual d_Step_init.2.params d_Step_init.2.body d_Step_init.2.scope (d_Step_init.2.dvs K) (d_Step_init.2.kws K) (d_Step_init.1 K) fd := T.says.fun_ 23 rfl
theorem f_Step_where (T : Tx K mg) : ∃ fd, FunD K d_Step_where.2.name d_Step_where.2.qual d_Step_where.2.params d_Step_where.2.body d_Step_where.2.scope (d_Step_where.2.dvs K) (d_Step_where.2.kws K) (d_Step_where.1 K) fd := T.says.fun_ 24 rfl
theorem f_Step_compute (T : Tx K mg) : ∃ fd, FunD K d_Step_compute.2.name d_Step_compute.2.qual d_Step_compute.2.params d_Step_compute.2.body d_Step_compute.2.scope (d_Step_compute.2.dvs K) (d_Step_compute.2.kws K) (d_Step_compute.1 K) fd := T.says.fun_ 25 rfl
theorem f_Step_equal (T : Tx K mg) : ∃ fd, FunD K d_Step_equal.2.name d_Step_equal.2.qual d_Step_equal.2.params d_Step_equal.2.body d_Step_equal.2.scope (d_Step_equal.2.dvs K) (d_Step_equal.2.kws K) (d_Step_equal.1 K) fd := T.says.fun_ 26 rfl
theorem f_Step_keep (T : Tx K mg) : ∃ fd, FunD K d_Step_keep.2.name d_Step_keep.2.qual d_Step_keep.2.params d_Step_keep.2.body d_Step_keep.2.scope (d_Step_keep.2.dvs K) (d_Step_keep.2.kws K) (d_Step_keep.1 K) fd := T.says.fun_ 27 rfl
theorem f_Step_distinct (T : Tx K mg) : ∃ fd, FunD K d_Step_distinct.2.name d_Step_distinct.2.qual d_Step_distinct.2.params d_Step_distinct.2.body d_Step_distinct.2.scope (d_Step_distinct.2.dvs K) (d_Step_distinct.2.kws K) (d_Step_distinct.1 K) fd := T.says.fun_ 28 rfl
theorem f_Step_group_by (T : Tx K mg) : ∃ fd, FunD K d_Step_group_by.2.name d_Step_group_by.2.qual d_Step_group_by.2.params d_Step_group_by.2.body d_Step_group_by.2.scope (d_Step_group_by.2.dvs K) (d_Step_group_by.2.kws K) (d_Step_group_by.1 K) fd := T.says.fun_ 29 rfl
theorem f_Step_broadcast (T : Tx K mg) : ∃ fd, FunD K d_Step_broadcast.2.name d_Step_broadcast.2.qual d_Step_broadcast.2.params d_Step_broadcast.2.body d_Step_broadcast.2.scope (d_Step_broadcast.2.dvs K) (d_Step_broadcast.2.kws K) (d_Step_broadcast.1 K) fd := T.says.fun_ 30 rfl
theorem f_Step_gather (T : Tx K mg) : ∃ fd, FunD K d_Step_gather.2.name d_Step_gather.2.qual d_Step_gather.2.params d_Step_gather.2.body d_Step_gather.2.scope (d_Step_gather.2.dvs K) (d_Step_gather.2.kws K) (d_Step_gather.1 K) fd := T.says.fun_ 31 rfl
theorem f_Step_join_with (T : Tx K mg) : ∃ fd, FunD K d_Step_join_with.2.name d_Step_join_with.2.qual d_Step_join_with.2.params d_Step_join_with.2.body d_Step_join_with.2.scope (d_Step_join_with.2.dvs K) (d_Step_join_with.2.kws K) (d_Step_join_with.1 K) fd := T.says.fun_ 32 rfl
theorem f_Step_semi_with (T : Tx K mg) : ∃ fd, FunD K d_Step_semi_with.2.name d_Step_semi_with.2.qual d_Step_semi_with.2.params d_Step_semi_with.2.body d_Step_semi_with.2.scope (d_Step_semi_with.2.dvs K) (d_Step_semi_with.2.kws K) (d_Step_semi_with.1 K) fd := T.says.fun_ 33 rfl
theorem f_Step_anti_with (T : Tx K mg) : ∃ fd, FunD K d_Step_anti_with.2.name d_Step_anti_with.2.qual d_Step_anti_with.2.params d_Step_anti_with.2.body d_Step_anti_with.2.scope (d_Step_anti_with.2.dvs K) (d_Step_anti_with.2.kws K) (d_Step_anti_with.1 K) fd := T.says.fun_ 34 rfl
theorem f_Step_add (T : Tx K mg) : ∃ fd, FunD K d_Step_add.2.name d_Step_add.2.qual d_Step_add.2.params d_Step_add.2.body d_Step_add.2.scope (d_Step_add.2.dvs K) (d_Step_add.2.kws K) (d_Step_add.1 K) fd := T.says.fun_ 35 rfl
theorem f_Step_alike (T : Tx K mg) : ∃ fd, FunD K d_Step_alike.2.name d_Step_alike.2.qual d_Step_alike.2.params d_Step_alike.2.body d_Step_alike.2.scope (d_Step_alike.2.dvs K) (d_Step_alike.2.kws K) (d_Step_alike.1 K) fd := T.says.fun_ 36 rfl
theorem f_Step_grouped (T : Tx K mg) : ∃ fd, FunD K d_Step_grouped.2.name d_Step_grouped.2.qual d_Step_grouped.2.params d_Step_grouped.2.body d_Step_grouped.2.scope (d_Step_grouped.2.dvs K) (d_Step_grouped.2.kws K) (d_Step_grouped.1 K) fd := T.says.fun_ 37 rfl
theorem f_tuples (T : Tx K mg) : ∃ fd, FunD K d_tuples.2.name d_tuples.2.qual d_tuples.2.params d_tuples.2.body d_tuples.2.scope (d_tuples.2.dvs K) (d_tuples.2.kws K) (d_tuples.1 K) fd := T.says.fun_ 38 rfl
theorem f_Lpen (T : Tx K mg) : ∃ fd, FunD K d_Lpen.2.name d_Lpen.2.qual d_Lpen.2.params d_Lpen.2.body d_Lpen.2.scope (d_Lpen.2.dvs K) (d_Lpen.2.kws K) (d_Lpen.1 K) fd := T.says.fun_ 39 rfl
theorem f_Ldraw (T : Tx K mg) : ∃ fd, FunD K d_Ldraw.2.name d_Ldraw.2.qual d_Ldraw.2.params d_Ldraw.2.body d_Ldraw.2.scope (d_Ldraw.2.dvs K) (d_Ldraw.2.kws K) (d_Ldraw.1 K) fd := T.says.fun_ 40 rfl
theorem f_Lpick (T : Tx K mg) : ∃ fd, FunD K d_Lpick.2.name d_Lpick.2.qual d_Lpick.2.params d_Lpick.2.body d_Lpick.2.scope (d_Lpick.2.dvs K) (d_Lpick.2.kws K) (d_Lpick.1 K) fd := T.says.fun_ 41 rfl
theorem f_Lsome (T : Tx K mg) : ∃ fd, FunD K d_Lsome.2.name d_Lsome.2.qual d_Lsome.2.params d_Lsome.2.body d_Lsome.2.scope (d_Lsome.2.dvs K) (d_Lsome.2.kws K) (d_Lsome.1 K) fd := T.says.fun_ 42 rfl
theorem f_Lbase (T : Tx K mg) : ∃ fd, FunD K d_Lbase.2.name d_Lbase.2.qual d_Lbase.2.params d_Lbase.2.body d_Lbase.2.scope (d_Lbase.2.dvs K) (d_Lbase.2.kws K) (d_Lbase.1 K) fd := T.says.fun_ 43 rfl
theorem f_Lpairs (T : Tx K mg) : ∃ fd, FunD K d_Lpairs.2.name d_Lpairs.2.qual d_Lpairs.2.params d_Lpairs.2.body d_Lpairs.2.scope (d_Lpairs.2.dvs K) (d_Lpairs.2.kws K) (d_Lpairs.1 K) fd := T.says.fun_ 44 rfl
theorem f_Ltwo (T : Tx K mg) : ∃ fd, FunD K d_Ltwo.2.name d_Ltwo.2.qual d_Ltwo.2.params d_Ltwo.2.body d_Ltwo.2.scope (d_Ltwo.2.dvs K) (d_Ltwo.2.kws K) (d_Ltwo.1 K) fd := T.says.fun_ 45 rfl
theorem f_Lright (T : Tx K mg) : ∃ fd, FunD K d_Lright.2.name d_Lright.2.qual d_Lright.2.params d_Lright.2.body d_Lright.2.scope (d_Lright.2.dvs K) (d_Lright.2.kws K) (d_Lright.1 K) fd := T.says.fun_ 46 rfl
theorem f_law (T : Tx K mg) : ∃ fd, FunD K d_law.2.name d_law.2.qual d_law.2.params d_law.2.body d_law.2.scope (d_law.2.dvs K) (d_law.2.kws K) (d_law.1 K) fd := T.says.fun_ 47 rfl
end
end Pf
namespace Bs
open PySem PySem.Spec PyProof.Rows L2
variable {X : Cx}
/-! ### rules of our own -/
/-- f() by its name -/
theorem pe_c0 {k j : Nat} {x : Str} {sp : Sp} {dvs : List V} {p pos : Pos} (c : C8.Cal X.prog X.w X.K X.mg X.base k x sp dvs) (hr : Room j X.A) (hk : k ≤ j) (hg : Gl X x) (hdb : (x == ("__debug__" : Str)) = false := by decide) :
    PE X (.Call (.Name x p) [] [] pos) (fun _ H Q => sp dvs H Q C8.E0) := by
  obtain ⟨f, fd, ps, ds, F, hm, kp, b, d⟩ := c.ex
  exact pe_call0 F (hr.mono hk) hg hm kp b d C8.pass0 hdb
/-- a short text, some times -/
def rRepS : R2 := fun x y H Q => ∃ z k, x = .str z ∧ y = .int k ∧ 0 ≤ k ∧ k ≤ 1000 ∧ z.length ≤ 1000 ∧ Q (.str ⟨(List.replicate k.toNat z.cps.toList).flatten.toArray⟩) H
theorem rep_flat (n : Nat) (c : Array Nat) : (List.replicate n c).foldl (fun x y => x ++ y) #[] = (List.replicate n c.toList).flatten.toArray := by
  have h : ∀ (n : Nat) (a : Array Nat), (List.replicate n c).foldl (fun x y => x ++ y) a = a ++ (List.replicate n c.toList).flatten.toArray := by
    intro n
    induction n with
    | zero => intro a; simp
    | succ n ih =>
      intro a
      rw [List.replicate_succ, List.foldl_cons, ih, List.replicate_succ, List.flatten_cons, Array.append_assoc]
      refine congrArg (a ++ ·) ?_
      apply Array.ext'
      simp
  rw [h]
  simp
theorem op_rep_str : OpR X (binaryOp .Mult) rRepS := by
  intro pins s σ H x y v u Q I rx ry h
  obtain ⟨z, k, rfl, rfl, h0, h1, hz, q⟩ := h
  obtain ⟨t, rfl⟩ := rx
  obtain ⟨t', rfl⟩ := ry
  have fin : ∀ (c : Str), c = ⟨(List.replicate k.toNat z.cps.toList).flatten.toArray⟩ → ∀ (t : Tok) (tk : Nat), EP X pins σ Q (.str c t) { s with toks := tk } := fun c e t tk => ⟨.str c, H, I.tok _, ⟨_, rfl⟩, by rw [e]; exact q⟩
  refine P.mul_str (by simp; omega) (fun h2 _ => ?_) (fun h2 _ => ?_) ?_
  · have h3 : 0 < k := by omega
    have h4 : (9223372036854775807 : Int) / 1000 ≤ 9223372036854775807 / k := by
      apply Int.le_ediv_of_mul_le h3
      omega
    have : (2 : Int) ^ 63 - 1 = 9223372036854775807 := by decide
    rw [this]
    omega
  · have h3 : z.length * k.toNat ≤ 1000 * 1000 := Nat.mul_le_mul hz (by omega)
    show decide (_ > sizeLine) = false
    exact decide_eq_false (by have : sizeLine = 16777216 := rfl; omega)
  · split
    · rename_i h2
      have e : k = 0 := by omega
      subst e
      refine ⟨by decide, fin _ ?_ _ _⟩
      simp [Str.empty]
    · split
      · rename_i h2 h3
        refine fin z ?_ t s.toks
        simp only [Bool.or_eq_true, beq_iff_eq] at h3
        rcases h3 with h3 | h3
        · subst h3
          apply TL.ext_tl
          simp [TL.tl]
        · have e : z.cps = #[] := Array.size_eq_zero_iff.mp h3
          apply TL.ext_tl
          simp [TL.tl, e]
      · rw [rep_flat]
        refine ⟨?_, fin _ rfl _ _⟩
        have h3 : k.toNat * z.length ≤ 1000 * 1000 := Nat.mul_le_mul (by omega) hz
        have h4 : ((List.replicate k.toNat z.cps.toList).flatten.toArray).size = k.toNat * z.length := by simp [Str.length]
        show _ ≤ sizeLine
        have : sizeLine = 16777216 := rfl
        show ((List.replicate k.toNat z.cps.toList).flatten.toArray).size ≤ sizeLine
        omega
end Bs
namespace Bs
open PySem PySem.Spec PyProof.Rows L2
variable {X : Cx} {n k : Nat} {C f : Addr} {fd : FuncData} {ps : List Str}
/-! ### == and != by the class's own __eq__, both answers -/
/-- what the own == promises: D a y r says that the answer is r; the heap stays -/
def spCmp (D : Addr → V → Bool → Hp → Prop) : Sp := fun vs H Q _ => ∃ (a : Addr) (y : V) (r : Bool), vs = [.ref a, y] ∧ D a y r H ∧ Q (.bl r) H
structure OwnE (X : Cx) (n : Nat) (C : Addr) (D : Addr → V → Bool → Hp → Prop) : Prop where
  ex : ∃ (f : Addr) (fd : FuncData) (ps : List Str), FnOk X.prog X.w X.K X.mg X.base C8.CX0 n f fd ps (spCmp D) ∧ PySem.W.findIn X.K (.ref C) "__eq__" = some (some (.ref f)) ∧ PySem.W.isFn X.K (.ref f) = true ∧ Binds X.K fd ps []
  obj : PySem.W.mroIn X.K C (.type "object") = some true
  ne : PySem.W.findIn X.K (.ref C) "__ne__" = some (some (.builtin "object.__ne__"))
theorem own_call {A : Around} {pins : List (Addr × Obj)} {s : Shared} {σ : L2.St} {H : Hp} {a : Addr} {y : V} {v : Value} {r : Bool} {D : Addr → V → Bool → Hp → Prop} {E : Value → Shared → Prop} (F : FnOk X.prog X.w X.K X.mg X.base C8.CX0 n f fd ps (spCmp D)) (hb : Binds X.K fd ps [])
    (hr : Room n A) (hf : A.frames = X.A.frames) (I : Inv X pins σ H s) (ry : RelV y v) (d : D a y r H) : wpAny (model X.prog X.w) A (call (.ref f) [.ref a, v]) (fun u s' => u = .bool r ∧ Inv X pins σ H s') E s := by
  have hsp : spCmp D [.ref a, y] H (fun v H' => v = .bl r ∧ H' = H) C8.E0 := ⟨a, y, r, rfl, d, rfl, rfl⟩
  have e0 : Env0 X.prog X.w X.K X.mg X.base A X.stack s H := by
    have e := I.env0
    exact ⟨by rw [hf]; exact e.frames, e.mod, e.bs, e.bsz, e.funs, e.frf, e.hok, e.bare⟩
  have hl := F.len _ _ _ _ hsp
  have r2 : Vals [V.ref a, y] [Value.ref a, v] := .cons rfl (.cons ry .nil)
  refine wpAny_call (codeAny_mono (F.run A X.stack s H ⟨[.ref a, v], []⟩ [.ref a, v] [.ref a, y] _ C8.E0 hr e0 (by
    have := hb s [.ref a, v] I.kIn (by simpa using hl)
    simpa using this) r2 hsp) fun r s' hq => ?_)
  cases r with
  | error e => exact hq.elim
  | ok fl =>
    cases fl with
    | ret w =>
      obtain ⟨z, H', I', rz, ez, ex⟩ := I.after hq
      subst ez ex
      cases rz
      exact ⟨rfl, I'⟩
    | next => exact False.elim hq
    | brk => exact False.elim hq
    | cont => exact False.elim hq
def rEqO (K : PySem.W.Frag) (C : Addr) (D : Addr → V → Bool → Hp → Prop) (g : Bool → Bool) : R2 := fun x y H Q => ∃ (a dx : Addr) (fs : List (Str × V)) (t : Value) (r : Bool), x = .ref a ∧ H a = some (.ins C dx fs) ∧ TyX K H y t ∧ PySem.W.notFirst K C t = true ∧ D a y r H ∧ Q (.bl (g r)) H
theorem op_eqO {D : Addr → V → Bool → Hp → Prop} (O : OwnE X n C D) (hr : Room n X.A) : OpR X (compareOp .Eq) (rEqO X.K C D id) := by
  intro pins s σ H x y v u Q I rx ry h
  obtain ⟨a, dx, fs, t, r, rfl, ha, ty, nf, d, q⟩ := h
  obtain ⟨f, fd, ps, F, hs, hf, hb⟩ := O.ex
  cases rx
  obtain ⟨mA, J, _⟩ := ins_get I.hok ha
  obtain ⟨od, J, _⟩ := J.look
  obtain ⟨m, hF⟩ := I.fr
  obtain ⟨P, kx, hP, _⟩ := kit_of I ry ty
  refine PySem.W.cmp_ofEq (PySem.W.cmp_K (op := .Eq) (tb := t) hr.units0 hF I.ok.mod.kin J (kx.ty _ _ I.kIn hP) nf hs hf ?_)
  refine wpAny_mono (own_call F hb hr rfl I ry d) (fun u s' ⟨eu, I'⟩ => ?_) fun _ _ x => x
  subst eu
  exact ⟨.bl r, H, I', rfl, q⟩
theorem op_neO {D : Addr → V → Bool → Hp → Prop} (O : OwnE X n C D) (hr : Room (n + 1) X.A) : OpR X (compareOp .NotEq) (rEqO X.K C D not) := by
  intro pins s σ H x y v u Q I rx ry h
  obtain ⟨a, dx, fs, t, r, rfl, ha, ty, nf, d, q⟩ := h
  obtain ⟨f, fd, ps, F, hs, hf, hb⟩ := O.ex
  cases rx
  obtain ⟨mA, J, _⟩ := ins_get I.hok ha
  obtain ⟨od, J, _⟩ := J.look
  obtain ⟨P, kx, hP, _⟩ := kit_of I ry ty
  have K0 : X.K.In s.heap := I.kIn
  have tl : PySem.W.Looks (model X.prog X.w) s.heap (typeOf u) t := kx.ty _ _ K0 hP
  have ifb : ∀ (Q' : Option Value → Shared → Prop), (∀ s', Inv X pins σ H s' → Q' (some (.bool r)) s') → wpAny (model X.prog X.w) X.A.in1 (callSpecialIfBound? (.ref a) "__eq__" [u]) Q' X.xe s := fun Q' hq =>
    PySem.W.ifBound_K K0 J hs hf (wpAny_mono (own_call F hb hr.in1 rfl I ry d) (fun v s' ⟨e, I'⟩ => by subst e; exact hq s' I') fun _ _ x => x)
  have hu := hr.in1.units0
  have body : ∀ (Q' : Fin → Shared → Prop), (∀ s', Inv X pins σ H s' → Q' (.done (.ret (.bool (!r)))) s') → wpAny (model X.prog X.w) X.A.in1 (Builtin.«object.__ne__» ⟨[.ref a, u], []⟩) Q' X.xe s := fun Q' hq => by
    unfold Builtin.«object.__ne__»
    repeat (first | with_reducible refine wpAny_cRoomFor hu ?_ | with_reducible refine wpAny_bind (ifb _ fun s' I' => ?_) | wp_step)
    exact hq s' I'
  have ifn : ∀ (Q' : Option Value → Shared → Prop), (∀ s', Inv X pins σ H s' → Q' (some (.bool (!r))) s') → wpAny (model X.prog X.w) X.A (callSpecialIfBound? (.ref a) "__ne__" [u]) Q' X.xe s := fun Q' hq => by
    have cl : ∀ (Q2 : Value → Shared → Prop), (∀ s', Inv X pins σ H s' → Q2 (.bool (!r)) s') → wpAny (model X.prog X.w) X.A (call (.builtin "object.__ne__") [.ref a, u]) Q2 X.xe s := fun Q2 h2 =>
      wpAny_call (codeAny_call_builtin PySem.F.cmp_object.ne.plain PySem.F.cmpEntry_ne (PySem.W.check_slot PySem.F.cmpKind_ne PySem.F.cmpSplit_ne (J.type.andThen (PySem.W.looks_mroIn K0 O.obj)) (PySem.F.cmpArgs_ne _ _) (body _ fun s' I' => h2 s' I')))
    have fin : wpAny (model X.prog X.w) X.A (call (.builtin "object.__ne__") ([.ref a] ++ [u]) >>= fun v => pure (some v)) Q' X.xe s := wpAny_bind (cl _ fun s' I' => wpAny_pure (hq s' I'))
    simp only [callSpecialIfBound?, bindSpecialIfBound?]
    refine wpAny_holding (wpAny_bind (wpAny_bind (wpAny_bind (J.type.here ((PySem.W.looks_findIn K0 O.ne).here ?_)))))
    refine wpAny_bind (wpAny_askSetting (wpAny_ite ?_))
    split
    · exact wpAny_bind (wpAny_of_eq (PySem.F.cmp_object.ne.bind _) (wpAny_pure (by exact fin)))
    · exact wpAny_tryCatch (wpAny_bind (wpAny_of_eq (PySem.F.cmp_object.ne.bind _) (wpAny_pure (by exact fin))))
  have one : wpAny (model X.prog X.w) X.A (tryCompare (.ref a) "__ne__" u) (fun z s' => z = some (.bool (!r)) ∧ Inv X pins σ H s') X.xe s := by
    unfold tryCompare
    exact wpAny_bind (ifn _ fun s' I' => wpAny_pure ⟨rfl, I'⟩)
  refine PySem.W.cmp_ofNotEq ?_
  unfold richCompare
  simp only [oneThing_ref]
  refine wpAny_holding (wpAny_bind (wpAny_cRoomFor hr.units0 ?_))
  refine wpAny_bind (J.type.here (wpAny_bind (tl.here ?_)))
  split
  · rename_i z
    have e : PySem.W.subIn X.K t (.ref C) = some false := by
      rcases Bool.or_eq_true_iff.mp nf with e | e
      · rw [beq_iff_eq.mp e] at z; simp at z
      · exact beq_iff_eq.mp e
    refine wpAny_bind ((PySem.W.looks_subIn K0 e).here ?_)
    simp only [Bool.false_eq_true, if_false]
    refine wpAny_bind (wpAny_mono one (fun z s' hz => ?_) fun _ _ e => e)
    obtain ⟨rfl, I'⟩ := hz
    exact wpAny_pure ⟨.bl (!r), H, I', rfl, q⟩
  · refine wpAny_bind (wpAny_pure ?_)
    simp only [Bool.false_eq_true, if_false]
    refine wpAny_bind (wpAny_mono one (fun z s' hz => ?_) fun _ _ e => e)
    obtain ⟨rfl, I'⟩ := hz
    exact wpAny_pure ⟨.bl (!r), H, I', rfl, q⟩
end Bs
namespace Bs
open PySem PySem.Spec PyProof.Rows L2
variable {X : Cx} {n k : Nat} {C f : Addr} {fd : FuncData} {ps : List Str}
/-! ### max(ints, default=d) -/
def rMaxD (K : PySem.W.Frag) : List V → List V → Hp → VK → Prop := fun vs zs H Q => ∃ (a : Addr) (ns : List Int) (d : Int), vs = [.ref a] ∧ zs = [.int d] ∧ SqL K H a (ns.map V.int) ∧
  ∀ m : Int, (ns = [] → m = d) → (ns ≠ [] → m ∈ ns ∧ ∀ k ∈ ns, k ≤ m) → Q (.int m) H
def big (y : Int) (ys : List Int) : Int := ys.foldl (fun a z => if decide (a < z) = true then z else a) y
theorem big_ge : ∀ (ys : List Int) (y : Int), y ≤ big y ys ∧ (∀ k ∈ ys, k ≤ big y ys) ∧ (big y ys = y ∨ big y ys ∈ ys)
  | [], y => ⟨Int.le_refl y, (fun k h => by cases h), .inl rfl⟩
  | z :: r, y => by
    have e : big y (z :: r) = big (if decide (y < z) = true then z else y) r := rfl
    obtain ⟨h1, h2, h3⟩ := big_ge r (if decide (y < z) = true then z else y)
    rw [e]
    by_cases c : y < z
    · rw [if_pos (decide_eq_true c)] at h1 h2 h3 ⊢
      refine ⟨by omega, fun k hk => ?_, .inr ?_⟩
      · rcases List.mem_cons.mp hk with q | q
        · rw [q]; exact h1
        · exact h2 k q
      · rcases h3 with q | q
        · rw [q]; exact List.mem_cons_self
        · exact List.mem_cons_of_mem _ q
    · rw [if_neg (by simpa using c)] at h1 h2 h3 ⊢
      refine ⟨h1, fun k hk => ?_, ?_⟩
      · rcases List.mem_cons.mp hk with q | q
        · omega
        · exact h2 k q
      · rcases h3 with q | q
        · exact .inl q
        · exact .inr (List.mem_cons_of_mem _ q)
theorem cr_maxD (hc : X.calm = true) (hu : X.A.units + 1 < cLine) : CallRK X (.builtin "max") ["default"] (rMaxD X.K) := by
  intro pins s σ H xs zs us ws Q I r rz h
  obtain ⟨a, ns, d, rfl, rfl, hs, q⟩ := h
  obtain ⟨its, rv, hl, _⟩ := I.list hs
  obtain ⟨w', ew, rw'⟩ := vals1 rz
  subst ew
  obtain ⟨t, rfl⟩ := rw'
  rw [Vals.ref1 r]
  show wpAny _ _ (call (.builtin "max") [.ref a] [(Str.ofString "default", .int d t)]) _ _ _
  refine PySem.W.max_list_datum_default (α := Int) (xs := ns) (I.ok.hd hc) hl.isList (PySem.W.HoldAll.of_ints (by simpa using rv.ints)) (by show X.A.units + 1 + 0 < cLine; exact hu) (fun e h' tk hk => ?_) fun y ys i v h' tk e hi hv hk => ?_
  · exact ⟨.int d, H, I.kept hk, ⟨_, rfl⟩, q d (fun _ => rfl) fun z => absurd e z⟩
  · obtain ⟨t', rfl⟩ := PySem.W.int_of_holds hv
    have eb : PySem.W.maxOf y ys = big y ys := rfl
    rw [eb]
    obtain ⟨h1, h2, h3⟩ := big_ge ys y
    refine ⟨.int (big y ys), H, I.kept hk, ⟨_, rfl⟩, q _ (fun z => by rw [e] at z; cases z) fun _ => ?_⟩
    rw [e]
    refine ⟨?_, fun k hk => ?_⟩
    · rcases h3 with z | z
      · rw [z]; exact List.mem_cons_self
      · exact List.mem_cons_of_mem _ z
    · rcases List.mem_cons.mp hk with z | z
      · rw [z]; exact h1
      · exact h2 k z
/-! ### str(o) by the class's own __str__ -/
def spStr (D : Addr → Str → Hp → Prop) : Sp := fun vs H Q _ => ∃ (a : Addr) (x : Str), vs = [.ref a] ∧ D a x H ∧ Q (.str x) H
structure OwnS (X : Cx) (n : Nat) (C : Addr) (D : Addr → Str → Hp → Prop) : Prop where
  ex : ∃ (f : Addr) (fd : FuncData) (ps : List Str), FnOk X.prog X.w X.K X.mg X.base C8.CX0 n f fd ps (spStr D) ∧ PySem.W.findIn X.K (.ref C) "__str__" = some (some (.ref f)) ∧ PySem.W.isFn X.K (.ref f) = true ∧ Binds X.K fd ps []
theorem call_strO {D : Addr → Str → Hp → Prop} (O : OwnS X n C D) (hr : Room (n + 2) X.A) : CallR X (.type "str") (fun xs H Q => ∃ (a dx : Addr) (fs : List (Str × V)) (x : Str), xs = [.ref a] ∧ H a = some (.ins C dx fs) ∧ D a x H ∧ Q (.str x) H) := by
  intro pins s σ H xs us Q I r h
  obtain ⟨a, dx, fs, x, rfl, ha, d, q⟩ := h
  obtain ⟨f, fd, ps, F, hs, hf, hb⟩ := O.ex
  obtain ⟨u, rfl, ru⟩ := vals1 r
  cases ru
  obtain ⟨mA, J, _⟩ := ins_get I.hok ha
  obtain ⟨od, J, _⟩ := J.look
  have hsp : spStr D [.ref a] H (fun v H' => v = .str x ∧ H' = H) C8.E0 := ⟨a, x, rfl, d, rfl, rfl⟩
  have e0 : Env0 X.prog X.w X.K X.mg X.base X.A.in1.in1 X.stack s H := by
    have e := I.env0
    exact ⟨e.frames, e.mod, e.bs, e.bsz, e.funs, e.frf, e.hok, e.bare⟩
  have hl := F.len _ _ _ _ hsp
  have r2 : Vals [V.ref a] [Value.ref a] := .cons rfl .nil
  have hr2 : Room n X.A.in1.in1 := hr.in1.in1
  refine PySem.W.kso_call hr2.units0 I.kIn J hs hf (wpAny_call (codeAny_mono (F.run X.A.in1.in1 X.stack s H ⟨[.ref a], []⟩ [.ref a] [.ref a] _ C8.E0 hr2 e0 (by
    have := hb s [.ref a] I.kIn (by simpa using hl)
    simpa using this) r2 hsp) fun r s' hq => ?_))
  cases r with
  | error e => exact hq.elim
  | ok fl =>
    cases fl with
    | ret w =>
      obtain ⟨z, H', I', rz, ez, ex⟩ := I.after hq
      subst ez ex
      obtain ⟨t, rfl⟩ := rz
      exact ⟨.str x, _, I', ⟨t, rfl⟩, q⟩
    | next => exact False.elim hq
    | brk => exact False.elim hq
    | cont => exact False.elim hq
end Bs
namespace Bs
open PySem PySem.Spec PyProof.Rows L2
variable {X : Cx} {K : PySem.W.Frag}
/-! ### rules whose reading names the written part itself -/
theorem pe_fldK {e : Expr} {f : Str} {pos : Pos} {ta : TE} (hK : X.K = K) (he : PE X e ta) (hb : attributeBase e f X.env (eval e X.env) = eval e X.env) : PE X (.Attribute e f pos) (tFld K ta f) := by
  subst hK
  exact pe_fld he hb
theorem ix_listK (hK : X.K = K) : IxR X (rIxL K) := by subst hK; exact ix_list
theorem ix_tupK (hK : X.K = K) : IxR X (rIxT K) := by subst hK; exact ix_tup
def rLenSeq (K : PySem.W.Frag) : List V → Hp → VK → Prop := fun xs H Q => ∃ (p : Addr) (ys : List V), xs = [.ref p] ∧ (SqL K H p ys ∨ SqT K H p ys) ∧ Q (.int (ys.length : Nat)) H
theorem call_len_seqK (hK : X.K = K) : CallR X (.builtin "len") (rLenSeq K) := by subst hK; exact call_len_seq
theorem call_isiK' (hK : X.K = K) : CallR X (.builtin "isinstance") (rIsi K) := by subst hK; exact call_isi
theorem pi_listK {tg l : Expr} {tl : TE} (hK : X.K = K) (hl : PE X l tl) : PI X tg l (iList K tl) := by subst hK; exact pi_list hl
theorem pi_tupK {tg l : Expr} {tl : TE} (hK : X.K = K) (hl : PE X l tl) : PI X tg l (iTup K tl) := by subst hK; exact pi_tup hl
theorem op_in_seqK (hK : X.K = K) : OpR X (compareOp .In) (rIn K false) := by subst hK; exact op_in_seq
/-! ### calls with keywords alone -/
structure CalK (P : Program) (w : World) (K : PySem.W.Frag) (mg : Str → Option Value) (base : Heap) (k : Nat) (x : Str) (sp : Sp) (ks : List Str) (gV : List V → List V) : Prop where
  ex : ∃ (f : Addr) (fd : FuncData) (ps : List Str) (g : List Value → List Value → List Value), FnOk P w K mg base C8.CX0 k f fd ps sp ∧ mg x = some (.ref f) ∧ PySem.W.keepIn K (.ref f) = true ∧ KBn K fd ps 0 ks g (fun _ zs => gV zs)
structure MakK (P : Program) (w : World) (K : PySem.W.Frag) (mg : Str → Option Value) (base : Heap) (k : Nat) (x : Str) (C : Addr) (sp : Sp) (ks : List Str) : Prop where
  ex : ∃ (f : Addr) (fd : FuncData) (ps : List Str) (g : List Value → List Value → List Value), Mk K C f ∧ FnOk P w K mg base C8.CX0 k f fd ps sp ∧ mg x = some (.ref C) ∧ KBn K fd ps 1 ks g (fun vs zs => vs ++ zs)
section
variable {k j : Nat} {x : Str} {sp : Sp} {ks : List Str} {gV : List V → List V} {p pos : Pos} {kws : List Keyword} {tk : TA} {C : Addr}
theorem pe_k (c : CalK X.prog X.w X.K X.mg X.base k x sp ks gV) (hr : Room j X.A) (hk : k ≤ j) (hg : Gl X x) (hkw : PK X kws tk)
    (hall : (backToKw pos (keywordEach kws X.env)).all (·.1.isSome) = true := by rfl) (hks : (backToKw pos (keywordEach kws X.env)).filterMap (·.1) = ks := by rfl) (hdb : (x == ("__debug__" : Str)) = false := by decide)
    (hpl : ((backTo pos (starEach [] X.env)).any (·.1) || (backToKw pos (keywordEach kws X.env)).any (·.1.isNone)) = false := by rfl) :
    PE X (.Call (.Name x p) [] kws pos) (fun σ H Q => tk σ H fun zs H1 => zs.length = ks.length ∧ sp (gV zs) H1 Q C8.E0) := by
  obtain ⟨f, fd, ps, g, F, hm, kp, hb⟩ := c.ex
  refine ⟨fun pins s σ H Q I h => ?_⟩
  refine wpAny_Call_Name_kw (ld_glob I hg hm ?_ hdb)
  refine PySem.W.callWith_KW0 (h₀ := X.base) I.ok.mod.kin kp hall ?_ hpl
  refine thn (hkw.run pos pins s σ H _ I h) fun ws s2 ⟨zs, H2, I2, rz, l2, q2⟩ => ⟨I2.kIn, ?_⟩
  rw [hks]
  exact run_fnN (us := []) (vs := []) F (hr.mono hk) hb C8.pass0 I2 .nil rz rfl l2 q2
theorem pe_mkk (c : MakK X.prog X.w X.K X.mg X.base k x C sp ks) (hr : Room j X.A) (hk : k + 1 ≤ j) (hg : Gl X x) (hkw : PK X kws tk)
    (hall : (backToKw pos (keywordEach kws X.env)).all (·.1.isSome) = true := by rfl) (hks : (backToKw pos (keywordEach kws X.env)).filterMap (·.1) = ks := by rfl) (hdb : (x == ("__debug__" : Str)) = false := by decide)
    (hpl : ((backTo pos (starEach [] X.env)).any (·.1) || (backToKw pos (keywordEach kws X.env)).any (·.1.isNone)) = false := by rfl) :
    PE X (.Call (.Name x p) [] kws pos) (tMakeK C 0 ks.length sp (fun vs zs => vs ++ zs) C8.E0 tNil tk) := by
  obtain ⟨f, fd, ps, g, M, F, hm, hb⟩ := c.ex
  exact pe_makeK0 M F (hr.mono hk) hg hm hb C8.pass0 hkw hall hks hdb hpl
end
end Bs
namespace Bs
open PySem PySem.Spec PyProof.Rows L2
/-! ### zip(list, tuple), zip(list, list, list) -/
section mk
variable {prog : Program} {w : World} {A : Around} {E : Value → Shared → Prop} {s : Shared}
abbrev itO (T : String) (l : Addr) : Obj := { cls := .type T, data := .fields #[.ref l, .int 0 0] }
abbrev tuO (vs : Array Value) : Obj := { cls := .type "tuple", data := .seq vs }
abbrev ziO (a b : Addr) : Obj := { cls := .type "zip", data := .fields #[.none, .bool false, .bool false, .ref a, .ref b] }
abbrev zm2 (h : Heap) (l t : Addr) : Heap := (h.push (itO "list_iterator" l)).push (itO "tuple_iterator" t)
abbrev zm3 (h : Heap) (l t : Addr) : Heap := (zm2 h l t).push (tuO #[.ref h.objs.size, .ref (h.push (itO "list_iterator" l)).objs.size])
abbrev zm4 (h : Heap) (l t : Addr) : Heap := (zm3 h l t).push (tuO #[.none, .none])
abbrev zm5 (h : Heap) (l t : Addr) : Heap := (zm4 h l t).push (ziO (zm2 h l t).objs.size (zm3 h l t).objs.size)
theorem meets_zm (l t : Addr) (xs ys : Array Value) : Meets (Builtin.«zip.__new__» ⟨[.type "zip", .ref l, .ref t], []⟩) (fun _ R s => s.heap.IsList l xs ∧ s.heap.IsTuple t ys ∧ R (.ok (.ret (.ref (zm4 s.heap l t).objs.size))) { s with heap := zm5 s.heap l t }) :=
  .of_wp fun prog w A R s ⟨hl, ht, h⟩ => by
    obtain ⟨hp, g, d, tk, os⟩ := s
    have hsub := sub_zip
    have a1 : Heap.IsList (Shared.heap ⟨hp, g, d, tk, os⟩) l xs := hl
    have a2 : Heap.IsTuple (Shared.heap ⟨hp.push (itO "list_iterator" l), g, d, tk, os⟩) t ys := Heap.IsTuple.push ht _
    wp_walk using wpAny_pyIter_list a1, wpAny_pyIter_tuple a2
    exact ⟨_, rfl, h⟩
theorem call_zm {l t : Addr} {xs ys : Array Value} {Q : Value → Shared → Prop} (hl : s.heap.IsList l xs) (ht : s.heap.IsTuple t ys)
    (h : ∀ h' : Heap, IsZip h' (s.heap.objs.size + 4) (s.heap.objs.size + 2) (s.heap.objs.size + 3) .none → IsTupOf2 h' (s.heap.objs.size + 2) (.ref s.heap.objs.size) (.ref (s.heap.objs.size + 1)) → IsTupOf2 h' (s.heap.objs.size + 3) .none .none →
      h'.IsListIter s.heap.objs.size l 0 → h'.IsTupleIter (s.heap.objs.size + 1) t 0 → (∀ c o, s.heap.get? c = some o → h'.get? c = some o) → Q (.ref (s.heap.objs.size + 4)) { s with heap := h' }) : wpAny (model prog w) A (call (.type "zip") [.ref l, .ref t]) Q E s := by
  refine callType_new F.called_zip (by decide) (F.typeCall_zip_2 _ _) (F.newCall_zip_2 _ _) (fun obj => F.args_object_init_3 obj _ _) F.entry_zip_new (meets_zm l t xs ys) ⟨hl, ht, ?_⟩
  have e1 : (s.heap.push (itO "list_iterator" l)).objs.size = s.heap.objs.size + 1 := Heap.size_push ..
  have e2 : (zm2 s.heap l t).objs.size = s.heap.objs.size + 2 := by rw [Heap.size_push, e1]
  have e3 : (zm3 s.heap l t).objs.size = s.heap.objs.size + 3 := by rw [Heap.size_push, e2]
  have e4 : (zm4 s.heap l t).objs.size = s.heap.objs.size + 4 := by rw [Heap.size_push, e3]
  have g5 : (zm5 s.heap l t).get? (zm4 s.heap l t).objs.size = some _ := Heap.get?_push_size _ rfl
  have g4 : (zm5 s.heap l t).get? (zm3 s.heap l t).objs.size = some _ := Heap.get?_push_of_some _ (Heap.get?_push_size _ rfl)
  have g3 : (zm5 s.heap l t).get? (zm2 s.heap l t).objs.size = some _ := Heap.get?_push_of_some _ (Heap.get?_push_of_some _ (Heap.get?_push_size _ rfl))
  have g2 : (zm5 s.heap l t).get? (s.heap.push (itO "list_iterator" l)).objs.size = some _ := Heap.get?_push_of_some _ (Heap.get?_push_of_some _ (Heap.get?_push_of_some _ (Heap.get?_push_size _ rfl)))
  have g1 : (zm5 s.heap l t).get? s.heap.objs.size = some _ := Heap.get?_push_of_some _ (Heap.get?_push_of_some _ (Heap.get?_push_of_some _ (Heap.get?_push_of_some _ (Heap.get?_push_size _ rfl))))
  rw [e4] at g5
  rw [e3] at g4
  rw [e2] at g3
  rw [e1] at g2
  show _ ∧ _
  rw [e4]
  refine ⟨⟨_, g5, rfl⟩, h _ ?_ ?_ g4 ⟨_, g1, rfl, rfl⟩ ⟨_, g2, rfl, rfl⟩ fun c o x => Heap.get?_push_of_some _ (Heap.get?_push_of_some _ (Heap.get?_push_of_some _ (Heap.get?_push_of_some _ (Heap.get?_push_of_some _ x))))⟩
  · rw [e2, e3] at g5; exact g5
  · rw [e1] at g3; exact g3
theorem typeCall_z3 (a b c : Value) : checkTypeCall "zip" ⟨[a, b, c], []⟩ = pure () := by kernel_rfl
theorem newCall_z3 (a b c : Value) : checkBuiltinCall "zip.__new__" ⟨[.type "zip", a, b, c], []⟩ = pure () := by kernel_rfl
theorem argsInit4 (a b c d : Value) : argsOk "object.__init__" ⟨[a, b, c, d], []⟩ := by
  unfold argsOk
  rw [signature?_of (id := "object.__init__") (n := ['_', '_', 't', 'i', 'n', 'i', '_', '_']) (o := ['t', 'c', 'e', 'j', 'b', 'o']) (by kernel_rfl) F.owner_object]
  kernel_rfl
abbrev zt1 (h : Heap) (a : Addr) : Heap := h.push (itO "list_iterator" a)
abbrev zt2 (h : Heap) (a b : Addr) : Heap := (zt1 h a).push (itO "list_iterator" b)
abbrev zt3 (h : Heap) (a b c : Addr) : Heap := (zt2 h a b).push (itO "list_iterator" c)
abbrev zt4 (h : Heap) (a b c : Addr) : Heap := (zt3 h a b c).push (tuO #[.ref h.objs.size, .ref (zt1 h a).objs.size, .ref (zt2 h a b).objs.size])
abbrev zt5 (h : Heap) (a b c : Addr) : Heap := (zt4 h a b c).push (tuO #[.none, .none, .none])
abbrev zt6 (h : Heap) (a b c : Addr) : Heap := (zt5 h a b c).push (ziO (zt3 h a b c).objs.size (zt4 h a b c).objs.size)
theorem meets_zt (a b c : Addr) (xs ys zs : Array Value) : Meets (Builtin.«zip.__new__» ⟨[.type "zip", .ref a, .ref b, .ref c], []⟩) (fun _ R s => s.heap.IsList a xs ∧ s.heap.IsList b ys ∧ s.heap.IsList c zs ∧ R (.ok (.ret (.ref (zt5 s.heap a b c).objs.size))) { s with heap := zt6 s.heap a b c }) :=
  .of_wp fun prog w A R s ⟨ha, hb, hc, h⟩ => by
    obtain ⟨hp, g, d, tk, os⟩ := s
    have hsub := sub_zip
    have a1 : Heap.IsList (Shared.heap ⟨hp, g, d, tk, os⟩) a xs := ha
    have a2 : Heap.IsList (Shared.heap ⟨zt1 hp a, g, d, tk, os⟩) b ys := Heap.IsList.push hb _
    have a3 : Heap.IsList (Shared.heap ⟨zt2 hp a b, g, d, tk, os⟩) c zs := Heap.IsList.push (Heap.IsList.push hc _) _
    wp_walk using wpAny_pyIter_list a1, wpAny_pyIter_list a2, wpAny_pyIter_list a3
    exact ⟨_, rfl, h⟩
theorem call_zt {a b c : Addr} {xs ys zs : Array Value} {Q : Value → Shared → Prop} (ha : s.heap.IsList a xs) (hb : s.heap.IsList b ys) (hc : s.heap.IsList c zs)
    (h : ∀ h' : Heap, IsZip h' (s.heap.objs.size + 5) (s.heap.objs.size + 3) (s.heap.objs.size + 4) .none → IsTupOf3 h' (s.heap.objs.size + 3) (.ref s.heap.objs.size) (.ref (s.heap.objs.size + 1)) (.ref (s.heap.objs.size + 2)) → IsTupOf3 h' (s.heap.objs.size + 4) .none .none .none →
      h'.IsListIter s.heap.objs.size a 0 → h'.IsListIter (s.heap.objs.size + 1) b 0 → h'.IsListIter (s.heap.objs.size + 2) c 0 → (∀ c o, s.heap.get? c = some o → h'.get? c = some o) → Q (.ref (s.heap.objs.size + 5)) { s with heap := h' }) : wpAny (model prog w) A (call (.type "zip") [.ref a, .ref b, .ref c]) Q E s := by
  refine callType_new F.called_zip (by decide) (typeCall_z3 _ _ _) (newCall_z3 _ _ _) (fun obj => argsInit4 obj _ _ _) F.entry_zip_new (meets_zt a b c xs ys zs) ⟨ha, hb, hc, ?_⟩
  have e1 : (zt1 s.heap a).objs.size = s.heap.objs.size + 1 := Heap.size_push ..
  have e2 : (zt2 s.heap a b).objs.size = s.heap.objs.size + 2 := by rw [Heap.size_push, e1]
  have e3 : (zt3 s.heap a b c).objs.size = s.heap.objs.size + 3 := by rw [Heap.size_push, e2]
  have e4 : (zt4 s.heap a b c).objs.size = s.heap.objs.size + 4 := by rw [Heap.size_push, e3]
  have e5 : (zt5 s.heap a b c).objs.size = s.heap.objs.size + 5 := by rw [Heap.size_push, e4]
  have g6 : (zt6 s.heap a b c).get? (zt5 s.heap a b c).objs.size = some _ := Heap.get?_push_size _ rfl
  have g5 : (zt6 s.heap a b c).get? (zt4 s.heap a b c).objs.size = some _ := Heap.get?_push_of_some _ (Heap.get?_push_size _ rfl)
  have g4 : (zt6 s.heap a b c).get? (zt3 s.heap a b c).objs.size = some _ := Heap.get?_push_of_some _ (Heap.get?_push_of_some _ (Heap.get?_push_size _ rfl))
  have g3 : (zt6 s.heap a b c).get? (zt2 s.heap a b).objs.size = some _ := Heap.get?_push_of_some _ (Heap.get?_push_of_some _ (Heap.get?_push_of_some _ (Heap.get?_push_size _ rfl)))
  have g2 : (zt6 s.heap a b c).get? (zt1 s.heap a).objs.size = some _ := Heap.get?_push_of_some _ (Heap.get?_push_of_some _ (Heap.get?_push_of_some _ (Heap.get?_push_of_some _ (Heap.get?_push_size _ rfl))))
  have g1 : (zt6 s.heap a b c).get? s.heap.objs.size = some _ := Heap.get?_push_of_some _ (Heap.get?_push_of_some _ (Heap.get?_push_of_some _ (Heap.get?_push_of_some _ (Heap.get?_push_of_some _ (Heap.get?_push_size _ rfl)))))
  rw [e5] at g6
  rw [e4] at g5
  rw [e3] at g4
  rw [e2] at g3
  rw [e1] at g2
  show _ ∧ _
  rw [e5]
  refine ⟨⟨_, g6, rfl⟩, h _ ?_ ?_ g5 ⟨_, g1, rfl, rfl⟩ ⟨_, g2, rfl, rfl⟩ ⟨_, g3, rfl, rfl⟩ fun c o x => Heap.get?_push_of_some _ (Heap.get?_push_of_some _ (Heap.get?_push_of_some _ (Heap.get?_push_of_some _ (Heap.get?_push_of_some _ (Heap.get?_push_of_some _ x)))))⟩
  · rw [e3, e4] at g6; exact g6
  · rw [e1, e2] at g4; exact g4
end mk
end Bs
namespace Bs
open PySem PySem.Spec PyProof.Rows L2
def ItM (K : PySem.W.Frag) (a b : Addr) : It :=
  ⟨fun i H => ∃ (xs ys : List V) (x y : V), SqL K H a xs ∧ SqT K H b ys ∧ xs[i]? = some x ∧ ys[i]? = some y,
    fun i H v H' => ∃ (T : Addr) (x y : V), v = .ref T ∧ H T = none ∧ H' = upd H T (.tup [x, y]) ∧ (∀ xs, SqL K H a xs → xs[i]? = some x) ∧ ∀ ys, SqT K H b ys → ys[i]? = some y,
    fun i H => ∃ xs ys : List V, SqL K H a xs ∧ SqT K H b ys ∧ i ≤ xs.length ∧ i ≤ ys.length ∧ (i = xs.length ∨ i = ys.length)⟩
theorem turn_m {P : Program} {w : World} {K : PySem.W.Frag} {elts : List Expr} {kk : Nat} {tpos : Pos} {a b z TI TO i1 i2 : Addr} (D : ZipSep2 z TI TO i1 i2 [i1, a] [i2, b]) (na : a ≠ i1) (nb : b ≠ i2) :
    Turn P w K (.Tuple elts kk tpos) (ItM K a b) [z, TI, TO, i1, i2] z (fun i h => IsZip h z TI TO .none ∧ IsTupOf2 h TI (.ref i1) (.ref i2) ∧ (∃ x y, IsTupOf2 h TO x y) ∧ h.IsListIter i1 a i ∧ h.IsTupleIter i2 b i) where
  mem := List.mem_cons_self
  obj := fun i h st c hc => by
    obtain ⟨hz, hTI, ⟨x, y, hTO⟩, ⟨o1, e1, _, d1⟩, ⟨o2, e2, _, d2⟩⟩ := st
    simp only [List.mem_cons, List.mem_nil_iff, or_false] at hc
    rcases hc with q | q | q | q | q
    · subst q; exact ⟨_, hz, by intro v e; cases e⟩
    · subst q; exact ⟨_, hTI, by intro v e; cases e⟩
    · subst q; exact ⟨_, hTO, by intro v e; cases e⟩
    · exact ⟨o1, q ▸ e1, fun v q => by rw [d1] at q; cases q⟩
    · exact ⟨o2, q ▸ e2, fun v q => by rw [d2] at q; cases q⟩
  keep := fun i h h' ⟨hz, hTI, ⟨x, y, hTO⟩, h1, h2⟩ k => ⟨k z (by simp) _ hz, k TI (by simp) _ hTI, ⟨x, y, k TO (by simp) _ hTO⟩, h1.at fun o q => k i1 (by simp) o q, h2.at fun o q => k i2 (by simp) o q⟩
  item := by
    intro X hP hw hK hc i pins s σ H E I hf ⟨hz, hTI, ⟨x0, y0, hTO⟩, h1, h2⟩ ⟨xs, ys, x, y, hqx, hqy, hx, hy⟩
    subst hP hw hK
    obtain ⟨its, rv, p, _⟩ := I.list hqx
    obtain ⟨its2, rv2, p2, _⟩ := I.tuple hqy
    obtain ⟨u, hu, ru⟩ := rv.get hx
    obtain ⟨u2, hu2, ru2⟩ := rv2.get hy
    have hh := I.ok.hd hc
    have zl : z < s.heap.objs.size := Heap.lt_size hz
    have l1 := (List.getElem?_eq_some_iff.mp hu).1
    have l2 := (List.getElem?_eq_some_iff.mp hu2).1
    refine wpAny_pyNext_zipD2_item (i := i) D (Draws.list (A := X.A.in1) hh i1 a na its.toArray) (Draws.tuple (A := X.A.in1) hh i2 b nb its2.toArray) hz hTI hTO ⟨h1, p.isList⟩ ⟨h2, p2⟩ (by rw [List.size_toArray]; exact l1) (by rw [List.size_toArray]; exact l2) fun x1 x2 h' tk q1 q2 z' TO' s1' s2' hT _ hk => ?_
    have e1 : x1 = u := by rw [← Array.getElem?_toList] at q1; exact Option.some.inj (q1.symm.trans hu)
    have e2 : x2 = u2 := by rw [← Array.getElem?_toList] at q2; exact Option.some.inj (q2.symm.trans hu2)
    subst e1 e2
    refine ⟨_, rfl, wpAny_letOwnedTupleGo_zip (s := { s with heap := h', toks := tk }) z' fun h'' z'' sb => ?_⟩
    have hT2 : h''.get? s.heap.objs.size = some { cls := .type "tuple", data := .seq #[x1, x2] } := (sb.2 _ (Nat.ne_of_gt zl)).trans hT
    have new : ObjOk X.prog X.w (upd H s.heap.objs.size (.tup [x, y])) h'' s.heap.objs.size (.tup [x, y]) := ⟨by show 2 ≤ sizeLine; decide, [x1, x2], .cons ru (.cons ru2 .nil), ⟨_, hT2, rfl, _, rfl⟩⟩
    have I1 : Inv X pins σ (upd H s.heap.objs.size (.tup [x, y])) { s with heap := h'', toks := tk } :=
      I.turnedNew (t' := tk) (ch := [z, TI, TO, i1, i2]) (fun c o hb q => by
        simp only [List.mem_cons, List.mem_nil_iff, or_false, not_or] at hb
        exact (sb.2 c hb.1).trans (hk c o hb.1 hb.2.2.1 hb.2.2.2.1 hb.2.2.2.2 q)) hf (Nat.le_refl _) new
    refine ⟨.ref s.heap.objs.size, _, I1, rfl, ⟨_, x, y, rfl, I.hok.fresh (Nat.le_refl _), rfl, fun l hl => by rw [I.list_inj hl hqx]; exact hx, fun l hl => by rw [I.tuple_inj hl hqy]; exact hy⟩, ⟨z'', ?_, ⟨x1, x2, ?_⟩, ?_, ?_⟩, fun c hcm => ?_⟩
    · exact (sb.2 _ D.TIz).trans (hk _ _ D.TIz D.TITO D.TIi1 D.TIi2 hTI)
    · exact (sb.2 _ D.TOz).trans TO'
    · exact s1'.1.at fun o q => (sb.2 _ D.zi1.symm).trans q
    · exact s2'.1.at fun o q => (sb.2 _ D.zi2.symm).trans q
    · have hlt : c < s.heap.objs.size := by
        simp only [List.mem_cons, List.mem_nil_iff, or_false] at hcm
        rcases hcm with q | q | q | q | q
        · exact q ▸ zl
        · exact q ▸ Heap.lt_size hTI
        · exact q ▸ Heap.lt_size hTO
        · obtain ⟨_, e1, _⟩ := h1
          exact q ▸ Heap.lt_size e1
        · obtain ⟨_, e2, _⟩ := h2
          exact q ▸ Heap.lt_size e2
      rw [upd_ne (Nat.ne_of_lt hlt)]
      exact (hf c hcm).1
  done := by
    intro X hP hw hK hc i pins s σ H E I hf ⟨hz, hTI, ⟨x0, y0, hTO⟩, h1, h2⟩ ⟨xs, ys, hqx, hqy, m1, m2, hend⟩
    subst hP hw hK
    obtain ⟨its, rv, p, _⟩ := I.list hqx
    obtain ⟨its2, rv2, p2, _⟩ := I.tuple hqy
    have hh := I.ok.hd hc
    have l1 := rv.length
    have l2 := rv2.length
    exact wpAny_pyNext_zipD2_end (i := i) D (Draws.list (A := X.A.in1) hh i1 a na its.toArray) (Draws.tuple (A := X.A.in1) hh i2 b nb its2.toArray) hz hTI hTO ⟨h1, p.isList⟩ ⟨h2, p2⟩ (by rw [List.size_toArray]; omega) (by rw [List.size_toArray]; omega) (by rw [List.size_toArray, List.size_toArray]; omega)
      fun h' tk hk => ⟨rfl, I.turnedL (t' := tk) (ch := [z, TI, TO, i1, i2]) (fun c o hb q => by
        simp only [List.mem_cons, List.mem_nil_iff, or_false, not_or] at hb
        exact hk c o hb.1 hb.2.2.1 hb.2.2.2.1 hb.2.2.2.2 q) hf⟩
  self := fun A i s Q E st h => wpAny_pyIter_zip st.1 h
theorem pg_tupK {X : Cx} {K : PySem.W.Frag} {es : List Expr} {k n : Nat} {pos : Pos} {t : TGs} (hK : X.K = K) (hc : X.calm = true) (h : PGs X es t)
    (hn : (assignEach es X.env).length = n := by rfl) (hst : (assignEach es X.env).findIdx? (·.1) = none := by rfl) : PG X (.Tuple es k pos) (gTup K n t) := by
  subst hK
  exact pg_tup hc h hn hst
theorem nin2 {x a b : Nat} (h1 : x ≠ a) (h2 : x ≠ b) : x ∉ [a, b] := by
  simp only [List.mem_cons, List.mem_nil_iff, or_false, not_or]
  exact ⟨h1, h2⟩
theorem sep_m (I a b : Nat) (h1 : a < I) (h2 : b < I) : ZipSep2 (I + 4) (I + 2) (I + 3) I (I + 1) [I, a] [I + 1, b] where
  TIz := Nat.ne_of_lt (by omega)
  TOz := Nat.ne_of_lt (by omega)
  TITO := Nat.ne_of_lt (by omega)
  TIi1 := Nat.ne_of_gt (by omega)
  mem1 := List.mem_cons_self
  zf1 := nin2 (by omega) (by omega)
  Tf1 := nin2 (by omega) (by omega)
  TIi2 := Nat.ne_of_gt (by omega)
  mem2 := List.mem_cons_self
  zf2 := nin2 (by omega) (by omega)
  Tf2 := nin2 (by omega) (by omega)
  sep1_2 := nin2 (by omega) (by omega)
  sep2_1 := nin2 (by omega) (by omega)
theorem sep_t (I a b c : Nat) (h1 : a < I) (h2 : b < I) (h3 : c < I) : ZipSep3 (I + 5) (I + 3) (I + 4) I (I + 1) (I + 2) [I, a] [I + 1, b] [I + 2, c] := by
  constructor <;> first | exact List.mem_cons_self | exact nin2 (by omega) (by omega) | exact Nat.ne_of_lt (by omega) | exact Nat.ne_of_gt (by omega)
theorem ne_add (I b k : Nat) (h : b < I) : b ≠ I + k := by omega
theorem le_one {I c : Nat} (h : c = I + 4 ∨ c = I + 2 ∨ c = I + 3 ∨ c = I ∨ c = I + 1) : I ≤ c := by omega
theorem le_two {I c : Nat} (h : c = I + 5 ∨ c = I + 3 ∨ c = I + 4 ∨ c = I ∨ c = I + 1 ∨ c = I + 2) : I ≤ c := by omega
def iZipM (K : PySem.W.Frag) (ta : TA) : TI := fun σ H R => ta σ H fun vs H1 => ∃ (a b : Addr) (xs ys : List V), vs = [.ref a, .ref b] ∧ SqL K H1 a xs ∧ SqT K H1 b ys ∧ R (ItM K a b) H1
theorem pi_zipM {X : Cx} {K : PySem.W.Frag} {e e2 : Expr} {ta : TA} {p pos tpos : Pos} {elts : List Expr} {kk : Nat} (hK : X.K = K) (hg : Gl X "zip") (hm : X.mg "zip" = none) (ha : PA X [e, e2] ta)
    (hs : starEach [e, e2] X.env = (false, eval e X.env) :: starEach [e2] X.env := by rfl) (hpl : (backTo pos (starEach [e2] X.env)).any (·.1) = false := by rfl) :
    PI X (.Tuple elts kk tpos) (.Call (.Name "zip" p) [e, e2] [] pos) (iZipM K ta) := by
  subst hK
  refine ⟨fun pins s σ H R I h => ?_⟩
  refine Call_ (ld_blt I hg hm PyProof.Rows.boot_zip (PyProof.Rows.callWith_type1 (thn (ha.run pos pins s σ H _ I h) fun us s1 ⟨vs, H1, I1, r1, a, b, xs, ys, ex, hqx, hqy, q⟩ => ?_) hs hpl))
  subst ex
  obtain ⟨u1, u2, rfl, r, r'⟩ := vals2 r1
  cases r
  cases r'
  obtain ⟨its, rv, p1, _⟩ := I1.list hqx
  obtain ⟨its2, rv2, p2, _⟩ := I1.tuple hqy
  have la : a < s1.heap.objs.size := p1.lt
  have lb : b < s1.heap.objs.size := by obtain ⟨o, e, _⟩ := p2; exact Heap.lt_size e
  refine call_zm p1.isList p2 fun h' hz hTI hTO h1 h2 hk => wpAny_pyIter_zip hz ?_
  have I2 : Inv X pins σ H1 { s1 with heap := h' } := I1.kept (t' := s1.toks) hk
  have D := sep_m s1.heap.objs.size a b la lb
  refine ⟨s1.heap.objs.size + 4, [s1.heap.objs.size + 4, s1.heap.objs.size + 2, s1.heap.objs.size + 3, s1.heap.objs.size, s1.heap.objs.size + 1], _, _, H1, rfl, I2, turn_m D (Nat.ne_of_lt la) (ne_add _ _ 1 lb), ⟨hz, hTI, ⟨_, _, hTO⟩, h1, h2⟩, fun c hcm => ?_, q⟩
  have hle : s1.heap.objs.size ≤ c := by
    simp only [List.mem_cons, List.mem_nil_iff, or_false] at hcm
    exact le_one hcm
  exact I1.fpOk hle (I1.hok.fresh hle)
/-- a comprehension over such a zip, of one length -/
theorem lc_zipM {K : PySem.W.Frag} {a b : Addr} {xs ys : List V} {g : TG} {tt : TT} {te : TE} {vs : List Nat} {σ : L2.St} {H1 : Hp} {D : Addr} {Qd : Hp → Prop} (hl : xs.length = ys.length) (Pv : Nat → Hp → Prop) (h0 : Pv 0 (upd H1 D (.lst [])))
    (hq : ∀ i H, Pv i H → SqL K H a xs ∧ SqT K H b ys)
    (hs : ∀ i x y T H, xs[i]? = some x → ys[i]? = some y → Pv i H → H T = none → g (.ref T) (wipe σ vs) (upd H T (.tup [x, y])) fun σ2 H2 => wipe σ2 vs = wipe σ vs ∧ tt σ2 H2 fun b H3 =>
      if b = true then te σ2 H3 fun y H4 => ∃ acc, H4 D = some (.lst acc) ∧ acc.length < sizeLine ∧ Pv (i + 1) (upd H4 D (.lst (acc ++ [y]))) else Pv (i + 1) H3) (hd : ∀ H, Pv xs.length H → Qd H) :
    ∃ W : Nat → Nat → Hp → Prop, (∃ m, W 0 m (upd H1 D (.lst []))) ∧ ∀ i m H, W i m H →
      ((ItM K a b).stop i H ∧ Qd H) ∨ ((ItM K a b).go i H ∧ ∃ Nx : Hp → Prop, (∀ H', Nx H' → ∃ m', m' < m ∧ W (i + 1) m' H') ∧ ∀ x H', (ItM K a b).yld i H x H' → g x (wipe σ vs) H' fun σ2 H2 => wipe σ2 vs = wipe σ vs ∧ tt σ2 H2 fun b H3 =>
        if b = true then te σ2 H3 fun y H4 => ∃ acc, H4 D = some (.lst acc) ∧ acc.length < sizeLine ∧ Nx (upd H4 D (.lst (acc ++ [y]))) else Nx H3) := by
  refine ⟨fun i m H => Pv i H ∧ i + m = xs.length, ⟨xs.length, h0, Nat.zero_add _⟩, fun i m H ⟨hp, em⟩ => ?_⟩
  obtain ⟨qx, qy⟩ := hq i H hp
  cases m with
  | zero =>
    have e : i = xs.length := em
    subst e
    exact .inl ⟨⟨xs, ys, qx, qy, Nat.le_refl _, by omega, .inl rfl⟩, hd H hp⟩
  | succ m =>
    have li : i < xs.length := by omega
    have hx := List.getElem?_eq_getElem li
    have hy := List.getElem?_eq_getElem (l := ys) (i := i) (by omega)
    refine .inr ⟨⟨xs, ys, _, _, qx, qy, hx, hy⟩, Pv (i + 1), fun H' h' => ⟨m, Nat.lt_succ_self m, h', by omega⟩, ?_⟩
    rintro _ _ ⟨T, x, y, rfl, hT, rfl, ex, ey⟩
    exact hs i x y T H (ex xs qx) (ey ys qy) hp hT
/-- a comprehension over zip of two lists of one length -/
theorem lc_zipL {K : PySem.W.Frag} {a b : Addr} {xs ys : List V} {g : TG} {tt : TT} {te : TE} {vs : List Nat} {σ : L2.St} {H1 : Hp} {D : Addr} {Qd : Hp → Prop} (hl : xs.length = ys.length) (Pv : Nat → Hp → Prop) (h0 : Pv 0 (upd H1 D (.lst [])))
    (hq : ∀ i H, Pv i H → SqL K H a xs ∧ SqL K H b ys)
    (hs : ∀ i x y T H, xs[i]? = some x → ys[i]? = some y → Pv i H → H T = none → g (.ref T) (wipe σ vs) (upd H T (.tup [x, y])) fun σ2 H2 => wipe σ2 vs = wipe σ vs ∧ tt σ2 H2 fun b H3 =>
      if b = true then te σ2 H3 fun y H4 => ∃ acc, H4 D = some (.lst acc) ∧ acc.length < sizeLine ∧ Pv (i + 1) (upd H4 D (.lst (acc ++ [y]))) else Pv (i + 1) H3) (hd : ∀ H, Pv xs.length H → Qd H) :
    ∃ W : Nat → Nat → Hp → Prop, (∃ m, W 0 m (upd H1 D (.lst []))) ∧ ∀ i m H, W i m H →
      ((Itz K a b).stop i H ∧ Qd H) ∨ ((Itz K a b).go i H ∧ ∃ Nx : Hp → Prop, (∀ H', Nx H' → ∃ m', m' < m ∧ W (i + 1) m' H') ∧ ∀ x H', (Itz K a b).yld i H x H' → g x (wipe σ vs) H' fun σ2 H2 => wipe σ2 vs = wipe σ vs ∧ tt σ2 H2 fun b H3 =>
        if b = true then te σ2 H3 fun y H4 => ∃ acc, H4 D = some (.lst acc) ∧ acc.length < sizeLine ∧ Nx (upd H4 D (.lst (acc ++ [y]))) else Nx H3) := by
  refine ⟨fun i m H => Pv i H ∧ i + m = xs.length, ⟨xs.length, h0, Nat.zero_add _⟩, fun i m H ⟨hp, em⟩ => ?_⟩
  obtain ⟨qx, qy⟩ := hq i H hp
  cases m with
  | zero =>
    have e : i = xs.length := em
    subst e
    exact .inl ⟨⟨xs, ys, qx, qy, .inl (Nat.le_refl _)⟩, hd H hp⟩
  | succ m =>
    have li : i < xs.length := by omega
    have hx := List.getElem?_eq_getElem li
    have hy := List.getElem?_eq_getElem (l := ys) (i := i) (by omega)
    refine .inr ⟨⟨xs, ys, _, _, qx, qy, hx, hy⟩, Pv (i + 1), fun H' h' => ⟨m, Nat.lt_succ_self m, h', by omega⟩, ?_⟩
    rintro _ _ ⟨T, x, y, rfl, hT, rfl, ex, ey⟩
    exact hs i x y T H (ex xs qx) (ey ys qy) hp hT
/-! three lists -/
def It3 (K : PySem.W.Frag) (a b c : Addr) : It :=
  ⟨fun i H => ∃ (xs ys zs : List V) (x y z : V), SqL K H a xs ∧ SqL K H b ys ∧ SqL K H c zs ∧ xs[i]? = some x ∧ ys[i]? = some y ∧ zs[i]? = some z,
    fun i H v H' => ∃ (T : Addr) (x y z : V), v = .ref T ∧ H T = none ∧ H' = upd H T (.tup [x, y, z]) ∧ (∀ xs, SqL K H a xs → xs[i]? = some x) ∧ (∀ ys, SqL K H b ys → ys[i]? = some y) ∧ ∀ zs, SqL K H c zs → zs[i]? = some z,
    fun i H => ∃ xs ys zs : List V, SqL K H a xs ∧ SqL K H b ys ∧ SqL K H c zs ∧ i ≤ xs.length ∧ i ≤ ys.length ∧ i ≤ zs.length ∧ (i = xs.length ∨ i = ys.length ∨ i = zs.length)⟩
theorem turn_3 {P : Program} {w : World} {K : PySem.W.Frag} {elts : List Expr} {kk : Nat} {tpos : Pos} {a b c z TI TO i1 i2 i3 : Addr} (D : ZipSep3 z TI TO i1 i2 i3 [i1, a] [i2, b] [i3, c]) (na : a ≠ i1) (nb : b ≠ i2) (nc : c ≠ i3) :
    Turn P w K (.Tuple elts kk tpos) (It3 K a b c) [z, TI, TO, i1, i2, i3] z (fun i h => IsZip h z TI TO .none ∧ IsTupOf3 h TI (.ref i1) (.ref i2) (.ref i3) ∧ (∃ x y u, IsTupOf3 h TO x y u) ∧ h.IsListIter i1 a i ∧ h.IsListIter i2 b i ∧ h.IsListIter i3 c i) where
  mem := List.mem_cons_self
  obj := fun i h st q hc => by
    obtain ⟨hz, hTI, ⟨x, y, u, hTO⟩, ⟨o1, e1, _, d1⟩, ⟨o2, e2, _, d2⟩, ⟨o3, e3, _, d3⟩⟩ := st
    simp only [List.mem_cons, List.mem_nil_iff, or_false] at hc
    rcases hc with q | q | q | q | q | q
    · subst q; exact ⟨_, hz, by intro v e; cases e⟩
    · subst q; exact ⟨_, hTI, by intro v e; cases e⟩
    · subst q; exact ⟨_, hTO, by intro v e; cases e⟩
    · exact ⟨o1, q ▸ e1, fun v q => by rw [d1] at q; cases q⟩
    · exact ⟨o2, q ▸ e2, fun v q => by rw [d2] at q; cases q⟩
    · exact ⟨o3, q ▸ e3, fun v q => by rw [d3] at q; cases q⟩
  keep := fun i h h' ⟨hz, hTI, ⟨x, y, u, hTO⟩, h1, h2, h3⟩ k => ⟨k z (by simp) _ hz, k TI (by simp) _ hTI, ⟨x, y, u, k TO (by simp) _ hTO⟩, h1.at fun o q => k i1 (by simp) o q, h2.at fun o q => k i2 (by simp) o q, h3.at fun o q => k i3 (by simp) o q⟩
  item := by
    intro X hP hw hK hc i pins s σ H E I hf ⟨hz, hTI, ⟨x0, y0, u0, hTO⟩, h1, h2, h3⟩ ⟨xs, ys, zs, x, y, zz, hqx, hqy, hqz, hx, hy, hzz⟩
    subst hP hw hK
    obtain ⟨its, rv, p, _⟩ := I.list hqx
    obtain ⟨its2, rv2, p2, _⟩ := I.list hqy
    obtain ⟨its3, rv3, p3, _⟩ := I.list hqz
    obtain ⟨u, hu, ru⟩ := rv.get hx
    obtain ⟨u2, hu2, ru2⟩ := rv2.get hy
    obtain ⟨u3, hu3, ru3⟩ := rv3.get hzz
    have hh := I.ok.hd hc
    have zl : z < s.heap.objs.size := Heap.lt_size hz
    have l1 := (List.getElem?_eq_some_iff.mp hu).1
    have l2 := (List.getElem?_eq_some_iff.mp hu2).1
    have l3 := (List.getElem?_eq_some_iff.mp hu3).1
    refine wpAny_pyNext_zipD3_item (i := i) D (Draws.list (A := X.A.in1) hh i1 a na its.toArray) (Draws.list (A := X.A.in1) hh i2 b nb its2.toArray) (Draws.list (A := X.A.in1) hh i3 c nc its3.toArray) hz hTI hTO ⟨h1, p.isList⟩ ⟨h2, p2.isList⟩ ⟨h3, p3.isList⟩ (by rw [List.size_toArray]; exact l1) (by rw [List.size_toArray]; exact l2) (by rw [List.size_toArray]; exact l3) fun x1 x2 x3 h' tk q1 q2 q3 z' TO' s1' s2' s3' hT _ hk => ?_
    have e1 : x1 = u := by rw [← Array.getElem?_toList] at q1; exact Option.some.inj (q1.symm.trans hu)
    have e2 : x2 = u2 := by rw [← Array.getElem?_toList] at q2; exact Option.some.inj (q2.symm.trans hu2)
    have e3 : x3 = u3 := by rw [← Array.getElem?_toList] at q3; exact Option.some.inj (q3.symm.trans hu3)
    subst e1 e2 e3
    refine ⟨_, rfl, wpAny_letOwnedTupleGo_zip (s := { s with heap := h', toks := tk }) z' fun h'' z'' sb => ?_⟩
    have hT2 : h''.get? s.heap.objs.size = some { cls := .type "tuple", data := .seq #[x1, x2, x3] } := (sb.2 _ (Nat.ne_of_gt zl)).trans hT
    have new : ObjOk X.prog X.w (upd H s.heap.objs.size (.tup [x, y, zz])) h'' s.heap.objs.size (.tup [x, y, zz]) := ⟨by show 3 ≤ sizeLine; decide, [x1, x2, x3], .cons ru (.cons ru2 (.cons ru3 .nil)), ⟨_, hT2, rfl, _, rfl⟩⟩
    have I1 : Inv X pins σ (upd H s.heap.objs.size (.tup [x, y, zz])) { s with heap := h'', toks := tk } :=
      I.turnedNew (t' := tk) (ch := [z, TI, TO, i1, i2, i3]) (fun c o hb q => by
        simp only [List.mem_cons, List.mem_nil_iff, or_false, not_or] at hb
        exact (sb.2 c hb.1).trans (hk c o hb.1 hb.2.2.1 hb.2.2.2.1 hb.2.2.2.2.1 hb.2.2.2.2.2 q)) hf (Nat.le_refl _) new
    refine ⟨.ref s.heap.objs.size, _, I1, rfl, ⟨_, x, y, zz, rfl, I.hok.fresh (Nat.le_refl _), rfl, fun l hl => by rw [I.list_inj hl hqx]; exact hx, fun l hl => by rw [I.list_inj hl hqy]; exact hy, fun l hl => by rw [I.list_inj hl hqz]; exact hzz⟩, ⟨z'', ?_, ⟨x1, x2, x3, ?_⟩, ?_, ?_, ?_⟩, fun c hcm => ?_⟩
    · exact (sb.2 _ D.TIz).trans (hk _ _ D.TIz D.TITO D.TIi1 D.TIi2 D.TIi3 hTI)
    · exact (sb.2 _ D.TOz).trans TO'
    · exact s1'.1.at fun o q => (sb.2 _ D.zi1.symm).trans q
    · exact s2'.1.at fun o q => (sb.2 _ D.zi2.symm).trans q
    · exact s3'.1.at fun o q => (sb.2 _ D.zi3.symm).trans q
    · have hlt : c < s.heap.objs.size := by
        simp only [List.mem_cons, List.mem_nil_iff, or_false] at hcm
        rcases hcm with q | q | q | q | q | q
        · exact q ▸ zl
        · exact q ▸ Heap.lt_size hTI
        · exact q ▸ Heap.lt_size hTO
        · obtain ⟨_, e1, _⟩ := h1
          exact q ▸ Heap.lt_size e1
        · obtain ⟨_, e2, _⟩ := h2
          exact q ▸ Heap.lt_size e2
        · obtain ⟨_, e3, _⟩ := h3
          exact q ▸ Heap.lt_size e3
      rw [upd_ne (Nat.ne_of_lt hlt)]
      exact (hf c hcm).1
  done := by
    intro X hP hw hK hc i pins s σ H E I hf ⟨hz, hTI, ⟨x0, y0, u0, hTO⟩, h1, h2, h3⟩ ⟨xs, ys, zs, hqx, hqy, hqz, m1, m2, m3, hend⟩
    subst hP hw hK
    obtain ⟨its, rv, p, _⟩ := I.list hqx
    obtain ⟨its2, rv2, p2, _⟩ := I.list hqy
    obtain ⟨its3, rv3, p3, _⟩ := I.list hqz
    have hh := I.ok.hd hc
    have l1 := rv.length
    have l2 := rv2.length
    have l3 := rv3.length
    exact wpAny_pyNext_zipD3_end (i := i) D (Draws.list (A := X.A.in1) hh i1 a na its.toArray) (Draws.list (A := X.A.in1) hh i2 b nb its2.toArray) (Draws.list (A := X.A.in1) hh i3 c nc its3.toArray) hz hTI hTO ⟨h1, p.isList⟩ ⟨h2, p2.isList⟩ ⟨h3, p3.isList⟩ (by rw [List.size_toArray]; omega) (by rw [List.size_toArray]; omega) (by rw [List.size_toArray]; omega)
      (by rw [List.size_toArray, List.size_toArray, List.size_toArray]; omega)
      fun h' tk hk => ⟨rfl, I.turnedL (t' := tk) (ch := [z, TI, TO, i1, i2, i3]) (fun c o hb q => by
        simp only [List.mem_cons, List.mem_nil_iff, or_false, not_or] at hb
        exact hk c o hb.1 hb.2.2.1 hb.2.2.2.1 hb.2.2.2.2.1 hb.2.2.2.2.2 q) hf⟩
  self := fun A i s Q E st h => wpAny_pyIter_zip st.1 h
def iZip3 (K : PySem.W.Frag) (ta : TA) : TI := fun σ H R => ta σ H fun vs H1 => ∃ (a b c : Addr) (xs ys zs : List V), vs = [.ref a, .ref b, .ref c] ∧ SqL K H1 a xs ∧ SqL K H1 b ys ∧ SqL K H1 c zs ∧ R (It3 K a b c) H1
theorem pi_zip3 {X : Cx} {K : PySem.W.Frag} {e e2 e3 : Expr} {ta : TA} {p pos tpos : Pos} {elts : List Expr} {kk : Nat} (hK : X.K = K) (hg : Gl X "zip") (hm : X.mg "zip" = none) (ha : PA X [e, e2, e3] ta)
    (hs : starEach [e, e2, e3] X.env = (false, eval e X.env) :: starEach [e2, e3] X.env := by rfl) (hpl : (backTo pos (starEach [e2, e3] X.env)).any (·.1) = false := by rfl) :
    PI X (.Tuple elts kk tpos) (.Call (.Name "zip" p) [e, e2, e3] [] pos) (iZip3 K ta) := by
  subst hK
  refine ⟨fun pins s σ H R I h => ?_⟩
  refine Call_ (ld_blt I hg hm PyProof.Rows.boot_zip (PyProof.Rows.callWith_type1 (thn (ha.run pos pins s σ H _ I h) fun us s1 ⟨vs, H1, I1, r1, a, b, c, xs, ys, zs, ex, hqx, hqy, hqz, q⟩ => ?_) hs hpl))
  subst ex
  cases r1 with
  | cons r rr =>
  cases rr with
  | cons r' rr =>
  cases rr with
  | cons r'' rr =>
  cases rr
  cases r
  cases r'
  cases r''
  obtain ⟨its, rv, p1, _⟩ := I1.list hqx
  obtain ⟨its2, rv2, p2, _⟩ := I1.list hqy
  obtain ⟨its3, rv3, p3, _⟩ := I1.list hqz
  refine call_zt p1.isList p2.isList p3.isList fun h' hz hTI hTO h1 h2 h3 hk => wpAny_pyIter_zip hz ?_
  have I2 : Inv X pins σ H1 { s1 with heap := h' } := I1.kept (t' := s1.toks) hk
  have D := sep_t s1.heap.objs.size a b c p1.lt p2.lt p3.lt
  refine ⟨s1.heap.objs.size + 5, [s1.heap.objs.size + 5, s1.heap.objs.size + 3, s1.heap.objs.size + 4, s1.heap.objs.size, s1.heap.objs.size + 1, s1.heap.objs.size + 2], _, _, H1, rfl, I2, turn_3 D (Nat.ne_of_lt p1.lt) (ne_add _ _ 1 p2.lt) (ne_add _ _ 2 p3.lt), ⟨hz, hTI, ⟨_, _, _, hTO⟩, h1, h2, h3⟩, fun c hcm => ?_, q⟩
  have hle : s1.heap.objs.size ≤ c := by
    simp only [List.mem_cons, List.mem_nil_iff, or_false] at hcm
    exact le_two hcm
  exact I1.fpOk hle (I1.hok.fresh hle)
theorem for_zip3 {K : PySem.W.Frag} {a b c : Addr} {xs ys zs : List V} {g : TG} {tb : TS} {D : Ends} {σ : L2.St} {H : Hp} (h1 : xs.length = ys.length) (h2 : xs.length = zs.length) (Pv : Nat → L2.St → Hp → Prop) (h0 : Pv 0 σ H)
    (hq : ∀ i σ H, Pv i σ H → SqL K H a xs ∧ SqL K H b ys ∧ SqL K H c zs)
    (hs : ∀ i x y z T σ H, xs[i]? = some x → ys[i]? = some y → zs[i]? = some z → Pv i σ H → H T = none → g (.ref T) σ (upd H T (.tup [x, y, z])) fun σ2 H2 => tb { nx := Pv (i + 1), rt := D.rt, bk := D.nx, ct := Pv (i + 1) } σ2 H2)
    (hd : ∀ σ H, Pv xs.length σ H → D.nx σ H) :
    ∃ W : Nat → Nat → L2.St → Hp → Prop, (∃ m, W 0 m σ H) ∧ ∀ i m σ H, W i m σ H → ((It3 K a b c).stop i H ∧ D.nx σ H) ∨ ((It3 K a b c).go i H ∧ ∃ N : L2.St → Hp → Prop, (∀ σ' H', N σ' H' → ∃ m', m' < m ∧ W (i + 1) m' σ' H') ∧
      ∀ x H', (It3 K a b c).yld i H x H' → g x σ H' fun σ2 H2 => tb { nx := N, rt := D.rt, bk := D.nx, ct := N } σ2 H2) := by
  refine ⟨fun i m σ H => Pv i σ H ∧ i + m = xs.length, ⟨xs.length, h0, Nat.zero_add _⟩, fun i m σ H ⟨hp, em⟩ => ?_⟩
  obtain ⟨qx, qy, qz⟩ := hq i σ H hp
  cases m with
  | zero =>
    have e : i = xs.length := em
    subst e
    exact .inl ⟨⟨xs, ys, zs, qx, qy, qz, Nat.le_refl _, by omega, by omega, .inl rfl⟩, hd σ H hp⟩
  | succ m =>
    have li : i < xs.length := by omega
    have hx := List.getElem?_eq_getElem li
    have hy := List.getElem?_eq_getElem (l := ys) (i := i) (by omega)
    have hz := List.getElem?_eq_getElem (l := zs) (i := i) (by omega)
    refine .inr ⟨⟨xs, ys, zs, _, _, _, qx, qy, qz, hx, hy, hz⟩, Pv (i + 1), fun σ' H' h' => ⟨m, Nat.lt_succ_self m, h', by omega⟩, ?_⟩
    rintro _ _ ⟨T, x, y, z, rfl, hT, rfl, ex, ey, ez⟩
    exact hs i x y z T σ H (ex xs qx) (ey ys qy) (ez zs qz) hp hT
end Bs
namespace Bs
open PySem PySem.Spec PyProof.Rows L2 GenW
/-! ### yield from a list -/
section
variable {prog : Program} {w : World} {A : Around} {E : Value → Shared → Prop} {s : Shared}
theorem sp_list_item {it l : Addr} {i : Nat} {items : Array Value} {x : Value} {Q : Option Value → Shared → Prop} (hit : s.heap.IsListIter it l i) (hl : s.heap.IsList l items) (hx : items[i]? = some x)
    (hQ : ∀ h', h'.IsListIter it l (i + 1) → Heap.SameBut it s.heap h' → Q (some x) { s with heap := h' }) : wpAny (model prog w) A (callSpecial? (.ref it) "__next__") Q E s := by
  obtain ⟨o, ho, hc, hd⟩ := id hit
  obtain ⟨ol, hol, _, nl, hdl⟩ := hl
  refine wpAny_callSpecial?_slot (name := Str.ofString "__next__") hit.typeIs slot_listiter_next (wpAny_call_entry slot_listiter_next hit.typeIs entry_listiter_next ?_ (args_listiter_next _))
  show wpAny _ _ (field (.ref it) 0 >>= _) _ _ s
  refine wpAny_bind (wpAny_field ho hd (x := .ref l) rfl ?_)
  show wpAny _ _ (if (Value.ref l == Value.none) = true then _ else _) _ _ s
  rw [if_neg (show ¬ ((Value.ref l == Value.none) = true) from Bool.false_ne_true)]
  show wpAny _ _ (field (.ref it) 1 >>= _) _ _ s
  refine wpAny_bind (wpAny_field ho hd (x := .int i 0) rfl ?_)
  show wpAny _ _ (seqItems? (.ref l) >>= _) _ _ s
  refine wpAny_bind (wpAny_seqItems hol hdl ?_)
  simp only [Int.toNat_natCast, hx]
  refine wpAny_bind (wpAny_setField ho hd (by simp) (wpAny_pure ⟨x, rfl, hQ _ ?_ (Heap.SameBut.update ..)⟩))
  exact ⟨_, Heap.get?_update_self _ ho (Obj.isFreed_of_fields (Obj.data_mapFields hd _)), (Obj.cls_mapFields ..).trans hc, by rw [Obj.data_mapFields hd]; simp [rawInt]⟩
theorem sp_list_end {it l : Addr} {i : Nat} {items : Array Value} {Q : Option Value → Shared → Prop} (hh : A.handled = none) (hit : s.heap.IsListIter it l i) (hl : s.heap.IsList l items) (hx : items[i]? = none)
    (hE : ∀ e h', StopX e h' → Heap.ExtBut it s.heap h' → E e { s with heap := h' }) : wpAny (model prog w) A (callSpecial? (.ref it) "__next__") Q E s := by
  obtain ⟨o, ho, hc, hd⟩ := id hit
  obtain ⟨ol, hol, _, nl, hdl⟩ := hl
  refine wpAny_callSpecial?_slot (name := Str.ofString "__next__") hit.typeIs slot_listiter_next (wpAny_call_entry slot_listiter_next hit.typeIs entry_listiter_next ?_ (args_listiter_next _))
  show wpAny _ _ (field (.ref it) 0 >>= _) _ _ s
  refine wpAny_bind (wpAny_field ho hd (x := .ref l) rfl ?_)
  show wpAny _ _ (if (Value.ref l == Value.none) = true then _ else _) _ _ s
  rw [if_neg (show ¬ ((Value.ref l == Value.none) = true) from Bool.false_ne_true)]
  show wpAny _ _ (field (.ref it) 1 >>= _) _ _ s
  refine wpAny_bind (wpAny_field ho hd (x := .int i 0) rfl ?_)
  show wpAny _ _ (seqItems? (.ref l) >>= _) _ _ s
  refine wpAny_bind (wpAny_seqItems hol hdl ?_)
  simp only [Int.toNat_natCast, hx]
  refine wpAny_bind (wpAny_rule (wpAny_bind (wpAny_setField ho hd (by simp) ?_)))
  show wpAny _ _ (newExc (.type "StopIteration") [] >>= _) _ _ _
  refine wpAny_bind ?_
  simp only [newExc, newTuple]
  refine wpAny_bind (wpAny_newObj_type ?_ (by size_fits))
  refine wpAny_bind (m := firstArgMember _ _) (wpAny_of_eq (a := Value.none) (by first | rfl | (simp only [firstArgMember]; rfl)) ?_)
  refine wpAny_newObj_type ?_ (by size_fits)
  simp only [raiseNew]
  refine wpAny_bind (wpAny_handled ?_)
  first | rw [show A.in1.handled = none from hh] | rw [hh]
  refine wpAny_bind (wpAny_pure (wpAny_throw ?_))
  refine hE _ _ ⟨_, _, _, rfl, Heap.get?_push_size _ rfl, rfl, rfl, ?_⟩ (((Heap.SameBut.update ..).extBut.push _).push _)
  first
    | rfl
    | (rw [Array.getElem?_append_left (by decide)]; rfl)
    | kernel_rfl
end
def tYfLst (te : TE) : TYf := fun σ H Q => te σ H fun x H1 => ∃ a xs, x = .ref a ∧ H1 a = some (.lst xs) ∧ Q xs H1
theorem close_lst : typeLookup (.type "list_iterator") "close" = pure none := by rw [typeLookup_type, builtinLookup_eq_fast]; kernel_rfl
theorem yf_lst {X : Cx} {e : Expr} {te : TE} (he : PE X e te) : YfE X e (tYfLst te) := by
  refine ⟨fun pins s σ H Q I h => ?_⟩
  refine thn (he.run pins s σ H _ I h) fun v s1 ⟨x, H1, I1, r1, a, xs, ex, ha, hq⟩ => ?_
  subst ex
  obtain rfl : v = Value.ref a := r1
  obtain ⟨hlen, its, cap, rits, ht0⟩ := (show ObjOk X.prog X.w H1 s1.heap a (.lst xs) from I1.hok a _ ha)
  have ht : s1.heap.IsList a its.toArray := ⟨_, ht0, rfl, _, rfl⟩
  have htl : a < s1.heap.objs.size := Heap.lt_size ht0
  refine ⟨"list", ht.typeIs, by decide, wpAny_pyIter_list ht ?_⟩
  have ksz : ∀ b o, s1.heap.get? b = some o → b ≠ s1.heap.objs.size := fun b o e => Nat.ne_of_lt (Heap.lt_size e)
  have kp : ∀ b o, s1.heap.get? b = some o → (s1.heap.push { cls := .type "list_iterator", data := .fields #[.ref a, .int 0 0] }).get? b = some o := fun b o e => Heap.get?_push_of_some _ e
  refine ⟨s1.heap.objs.size, H1, xs, fun j h => h.IsListIter s1.heap.objs.size a j ∧ h.IsList a its.toArray, rfl, I1.kept (t' := s1.toks) kp, .inr I1.sz, Nat.ne_of_gt I1.lt, fun y c hy => ?_, I1.hok.fresh (Nat.le_refl _), fun p hp => ?_,
    ⟨⟨_, Heap.get?_push_size _ rfl, rfl, rfl⟩, ⟨_, kp _ _ ht0, rfl, _, rfl⟩⟩, ⟨⟨"list_iterator", fun j h q => ?_, close_lst, by decide⟩, fun j h h' q hk => ?_, fun A' j x s2 Q' E' hA hx q hQ => ?_, fun A' s2 Q' E' hA q hE => ?_⟩, hq⟩
  · obtain ⟨v, o, ho, _⟩ := I1.cell y c hy
    exact ksz c o ho
  · exact ksz p.1 _ (I1.pin p hp).1
  · obtain ⟨⟨o, ho, hc, _⟩, _⟩ := q
    exact ⟨o, ho, hc⟩
  · obtain ⟨⟨o, ho, r⟩, o2, ho2, r2⟩ := q
    exact ⟨⟨o, hk _ o (.inl rfl) ho, r⟩, o2, hk _ o2 (.inr (by rw [ha]; exact fun z => by cases z)) ho2, r2⟩
  · obtain ⟨q1, q2⟩ := q
    obtain ⟨u, hu, ru⟩ := rits.get hx
    have hne : a ≠ s1.heap.objs.size := Nat.ne_of_lt htl
    refine sp_list_item q1 q2 (x := u) (by simpa using hu) fun h' q1' hs => hQ u h' s2.toks ru ⟨q1', ?_⟩ fun b o hb eb => hs.extBut b o hb eb
    obtain ⟨o2, ho2, r2⟩ := q2
    exact ⟨o2, hs.extBut _ _ hne ho2, r2⟩
  · obtain ⟨q1, q2⟩ := q
    have hnone : its.toArray[xs.length]? = none := by
      have e := rits.length
      have e2 : its[xs.length]? = none := List.getElem?_eq_none_iff.mpr (by omega)
      simpa using e2
    exact sp_list_end hA q1 q2 hnone fun e h' hS hk => hE e h' s2.toks hS fun b o hb eb => hk b o hb eb
/-! ### list(d.values()) -/
theorem kv_at {κ : Type} : ∀ {kvs : List (κ × V)} {vs : List (κ × Value)}, KV kvs vs → ∀ {j : Nat} {x : V} {k : κ} {w : Value}, (kvs.map fun kv => kv.2)[j]? = some x → vs[j]? = some (k, w) → RelV x w
  | _, _, .cons r t, 0, _, _, _, h1, h2 => by
    simp only [List.map_cons, List.getElem?_cons_zero, Option.some.injEq] at h1 h2
    rw [← h1]
    have e := r.2
    rw [h2] at e
    exact e
  | _, _, .cons r t, j + 1, _, _, _, h1, h2 => kv_at t (j := j) (by simpa using h1) (by simpa using h2)
  | _, _, .nil, _, _, _, _, _, h2 => by simp at h2
def tLV (td : TE) : TE := fun σ H Q => td σ H fun x H1 => ∃ d kvs, x = .ref d ∧ H1 d = some (.dK kvs) ∧ ∀ q, H1 q = none → Q (.ref q) (upd H1 q (.lst (kvs.map fun kv => kv.2)))
theorem pe_listVals {X : Cx} {e : Expr} {td : TE} {p pos apos cpos : Pos} (hc : X.calm = true) (hg : Gl X "list") (hmg : X.mg "list" = none) (he : PE X e td)
    (hbase : attributeBase e "values" X.env (eval e X.env) = eval e X.env := by rfl) (hline : (apos.endLine == cpos.line) = true := by rfl)
    (hst : starEach [.Call (.Attribute e "values" apos) [] [] cpos] X.env = (false, eval (.Call (.Attribute e "values" apos) [] [] cpos) X.env) :: starEach [] X.env := by rfl) :
    PE X (.Call (.Name "list" p) [.Call (.Attribute e "values" apos) [] [] cpos] [] pos) (tLV td) := by
  refine ⟨fun pins s σ H Q I h => ?_⟩
  refine wpAny_Call_Name_kw (ld_blt I hg hmg boot_list ?_ (by decide) (by decide))
  refine PyProof.Rows.callWith_type1 ?_ hst rfl
  rw [hst]
  show wpAny _ _ (spliced ((false, eval (.Call (.Attribute e "values" apos) [] [] cpos) X.env) :: backTo pos (starEach [] X.env))) _ _ s
  refine Calls.spliced_cons ?_
  refine wpAny_Call_method (T := "dict") (id := "dict.values") hbase rfl hline F.plainAttrs_dict F.slot_dict_values F.type_dict_values (thn (he.run pins s σ H _ I h) fun u s1 ⟨x, H1, I1, rx, d, kvs, ex, hd, q⟩ => ?_)
  subst ex
  obtain rfl : u = Value.ref d := rx
  obtain ⟨z, lo, vs, rk, hdd⟩ := (show ObjOk X.prog X.w H1 s1.heap d (.dK kvs) from I1.hok d _ hd)
  obtain ⟨ep, hat⟩ := hdd.dictAt
  have hl : kvs.length = vs.length := Paired.length rk
  refine ⟨hdd.typeIs, hdd.mapOf.noDict, ?_⟩
  show wpAny _ _ (callWith cpos (.builtin "dict.values") [.ref d] [] []) _ X.xe s1
  refine method_meetsIn F.slot_dict_values F.entry_dict_values rfl (PySem.evalArgs_none ⟨rfl, hdd.typeIs, F.args_dict_values_1 _, _, meets_dict_values (mixKind X.prog X.w) d lo, ⟨vs, hdd⟩, ?_⟩)
  refine Calls.spliced_nil ?_
  have kp : ∀ b o, s1.heap.get? b = some o → (s1.heap.push { cls := .type "dict_values", data := .fields #[.ref d] }).get? b = some o := fun b o e => Heap.get?_push_of_some _ e
  have I2 : Inv X pins σ H1 { s1 with heap := s1.heap.push { cls := .type "dict_values", data := .fields #[.ref d] } } := I1.kept (t' := s1.toks) kp
  refine PySem.W.kdl_call (s := { s1 with heap := s1.heap.push { cls := .type "dict_values", data := .fields #[.ref d] } }) (PySem.W.kdl_values (knd := mixKind X.prog X.w) (kvs := vs) (ep := ep) (r := s1.heap.objs.size) (d := d)) (I2.ok.hd hc) ⟨⟨_, Heap.get?_push_size _ rfl, rfl, rfl⟩, hat.push _⟩ (by rw [← hl]; exact z) fun h' tk acc' c' hkeep hS hacc => ?_
  refine ⟨.ref _, upd H1 _ (.lst (kvs.map fun kv => kv.2)), I2.laid hkeep (Nat.le_refl _) (show ObjOk X.prog X.w _ _ _ (.lst (kvs.map fun kv => kv.2)) from ⟨?_, acc'.toList, c', ?_, ?_⟩), rfl, q _ (I2.hok.fresh (Nat.le_refl _))⟩
  · rw [List.length_map]; exact z
  · have el : acc'.toList.length = acc'.size := by simp
    refine vals_of_at (by rw [List.length_map, el, hacc.1, hl]) fun j x w h1 h2 => ?_
    obtain ⟨k, hky⟩ := hacc.2 j w (by rw [← Array.getElem?_toList]; exact h2)
    exact kv_at rk h1 hky
  · rw [Array.toArray_toList]; exact hS
end Bs
/-! ### != of two lists of tuples that hold the same int and the same object -/
namespace Bs
open PySem PySem.Spec PyProof.Rows L2 PySem.SeqAt
section
variable {X : Cx}
def TwinT (K : PySem.W.Frag) (H : Hp) (v z : V) : Prop := ∃ (t a : Addr) (n : Int) (r : Addr), v = .ref t ∧ z = .ref a ∧ SqT K H t [.int n, .ref r] ∧ SqT K H a [.int n, .ref r]
def rNeTs (K : PySem.W.Frag) : R2 := fun x y H Q => ∃ (l b : Addr) (vs xs : List V), x = .ref l ∧ y = .ref b ∧ SqL K H l vs ∧ SqL K H b xs ∧ vs.length = xs.length ∧ (∀ (i : Nat) (v z : V), vs[i]? = some v → xs[i]? = some z → TwinT K H v z) ∧ Q (.bl false) H
theorem twin_eq {A : Around} {pins : List (Addr × Obj)} {s : Shared} {σ : L2.St} {H : Hp} {v z : V} {u w : Value} (I : Inv X pins σ H s) (h : TwinT X.K H v z) (ru : RelV v u) (rw_ : RelV z w) (hu : A.units + 8 < cLine) : EqAt A s u w true := by
  obtain ⟨t, a, n, r, rfl, rfl, ht, ha⟩ := h
  cases ru
  cases rw_
  by_cases c : t = a
  · subst c; exact EqAt.same _
  obtain ⟨its, r1, h1, _⟩ := I.tuple ht
  obtain ⟨jts, r2, h2, _⟩ := I.tuple ha
  cases r1 with
  | cons p1 q1 =>
  cases q1 with
  | cons p2 q2 =>
  cases q2
  cases r2 with
  | cons p3 q3 =>
  cases q3 with
  | cons p4 q4 =>
  cases q4
  obtain ⟨k1, rfl⟩ := p1
  obtain ⟨k3, rfl⟩ := p3
  cases p2
  cases p4
  have e := RcAt.tuples (A := A) (s := s) (e := fun _ => true) h1 h2 (by omega) (fun j j1 j2 => by
    match j, j1, j2 with
    | 0, _, _ =>
      have z := EqAt.int_int (A := A.in1) (s := s) n k1 n k3
      rw [beq_self_eq_true] at z
      exact z
    | 1, _, _ => exact EqAt.same _)
  exact EqAt.of_refs c e
theorem op_neTs {K : PySem.W.Frag} (hK : X.K = K) (hu : X.A.units + 64 < cLine) : OpR X (compareOp .NotEq) (rNeTs K) := by
  subst hK
  intro pins s σ H x y v u Q I rx ry h
  obtain ⟨l, b, vs, xs, rfl, rfl, hl, hb, hn, ht, q⟩ := h
  cases rx
  cases ry
  obtain ⟨its, r1, h1, _⟩ := I.list hl
  obtain ⟨jts, r2, h2, _⟩ := I.list hb
  have n1 := r1.length
  have n2 := r2.length
  have e := RcNeAt.lists (A := X.A) (s := s) (e := fun _ => true) h1.isList h2.isList (by simp only [List.size_toArray]; omega) (by omega) (fun j j1 j2 => by
    have g1 : j < its.length := by simpa using j1
    have g2 : j < jts.length := by simpa using j2
    obtain ⟨u1, a1, b1⟩ := r1.get (List.getElem?_eq_getElem (show j < vs.length by omega))
    obtain ⟨u2, a2, b2⟩ := r2.get (List.getElem?_eq_getElem (show j < xs.length by omega))
    have z := twin_eq (A := X.A.in1) I (ht j _ _ (List.getElem?_eq_getElem (show j < vs.length by omega)) (List.getElem?_eq_getElem (show j < xs.length by omega))) b1 b2 (by show X.A.units + 1 + 8 < cLine; omega)
    rw [List.getElem?_eq_getElem g1] at a1
    rw [List.getElem?_eq_getElem g2] at a2
    cases a1
    cases a2
    simpa using z)
  have al : ((List.range its.toArray.size).all fun _ => true) = true := by simp
  rw [al] at e
  exact e X.prog X.w _ _ ⟨.bl false, H, I, rfl, q⟩
end
end Bs
/-! ### defs that show things: what is known of the guards around them -/
namespace Gd
open PySem PySem.Spec PyProof.Rows L2
variable {P : Program} {w : World} {K : PySem.W.Frag} {mg : Str → Option Value} {base : Heap} {X : Cx}
/-- nothing is being shown around -/
def Un (A : Around) : Prop := A.guards = some []
structure FnG (P : Program) (w : World) (K : PySem.W.Frag) (mg : Str → Option Value) (base : Heap) (k : Nat) (f : Addr) (fd : FuncData) (ps : List Str) (sp : Sp) : Prop where
  many : ∀ vs H Q E, sp vs H Q E → vs.length = ps.length
  does : ∀ (A : Around) (up : List Env) (s : Shared) (H : Hp) (g : Args) (us : List Value) (vs : List V) (Q : VK) (E : XK), Un A → Room k A → Env0 P w K mg base A up s H → BindsTo s fd g (ps.zip us) → Vals vs us → sp vs H Q E →
    codeAny (model P w) A (.call (.ref f) g) (CR C8.CX0 up P w H s Q E) s
theorem FnG.of {k : Nat} {f : Addr} {fd : FuncData} {ps : List Str} {sp : Sp} (F : FnOk P w K mg base C8.CX0 k f fd ps sp) : FnG P w K mg base k f fd ps sp :=
  ⟨F.len, fun A up s H g us vs Q E _ hr e b r q => F.run A up s H g us vs Q E hr e b r q⟩
theorem FnG.mono {j k : Nat} {f : Addr} {fd : FuncData} {ps : List Str} {sp : Sp} (F : FnG P w K mg base j f fd ps sp) (h : j ≤ k) : FnG P w K mg base k f fd ps sp :=
  ⟨F.many, fun A up s H g us vs Q E un hr e b r q => F.does A up s H g us vs Q E un (hr.mono h) e b r q⟩
/-- the promise of such a def, by its body -/
theorem mkG {x qual : Str} {params : Arguments} {body : List Stmt} {scope : Scope} {dvs : List V} {kws : List (Str × V)} {f : Addr} {fd : FuncData} {N ps : List Str} {k : Nat} {sp : Sp} (F : FunD K x qual params body scope dvs kws f fd) (S : FnScope N ps scope) (many : ∀ vs H Q E, sp vs H Q E → vs.length = ps.length)
    (does : ∀ (cdv : Value) (A : Around) (up : List Env) (s : Shared) (H : Hp) (vs : List V) (Q : VK) (E : XK), Un (A.deeper (envOfC qual scope s.heap.objs.size f cdv)) → Room k (A.deeper (envOfC qual scope s.heap.objs.size f cdv)) → sp vs H Q E →
      ∃ t, PSs (cxOf C8.CX0 P w K mg base N qual scope f cdv A up s H E).nox body t ∧ t { nx := fun _ H' => Q .non H', rt := Q } (start N vs) H) : FnG P w K mg base (k + 1) f fd ps sp := by
  obtain ⟨oc, od, dV, kV, doc, pm, an, cdv, ct, osl, rfl, lk, hcd, _, _⟩ := F.ex
  refine ⟨many, fun A up s H g us vs Q E un hr e b r q => ?_⟩
  have len := many _ _ _ _ q
  have kin : K.In s.heap := e.mod.kin.keeps fun b o z => (e.bs b o z).1
  have nol : s.heap.NoLimit := e.mod.nolimit.keeps fun b o z => (e.bs b o z).1
  refine codeAny_call_function hr.depth (kin _ _ lk) rfl S.co S.gen rfl (PySem.W.codeRec_of kin hcd) (b _ _ _ _ ?_)
  refine wpAny_newFunctionEnv_cells S.kind (fun y hy => ?_) fun env he s1 z => ?_
  · rcases S.par y.1 (List.of_mem_zip (a := y.1) (b := y.2) hy).1 with l | c
    · exact .inl l
    · exact .inr ⟨c, PySem.W.cellsFrom_some _ _ _ (.inl c)⟩
  · subst he
    obtain ⟨t, ht, h⟩ := does cdv A up s H vs Q E un (hr.deeper _) q
    have ht := ht.nox
    have J : Inv (cxOf C8.CX0 P w K mg base N qual scope f cdv A up s H E) [] (start N vs) H s1 := inv_start S hr.hd e len r z
    refine ⟨nol.keeps z.toInCall.keep, codeAny_func (wpAny_mono (ht.run [] s1 (start N vs) H _ J h) (fun fl s2 hs => ?_) fun _ _ hs => hs)⟩
    match fl, hs with
    | .ret _, ⟨v, _, H2, J2, rv, q2⟩ => exact ⟨v, H2, J2.os, J2.bare, J2.base, J2.hok, rv, q2⟩
    | .next, ⟨_, H2, J2, q2⟩ => exact ⟨.non, H2, J2.os, J2.bare, J2.base, J2.hok, rfl, q2⟩
    | .brk, ⟨_, _, _, q2⟩ => exact q2.elim
    | .cont, ⟨_, _, _, q2⟩ => exact q2.elim
/-- such a def, called by its name -/
structure CalG (P : Program) (w : World) (K : PySem.W.Frag) (mg : Str → Option Value) (base : Heap) (k : Nat) (x : Str) (sp : Sp) (dvs : List V) : Prop where
  ex : ∃ (f : Addr) (fd : FuncData) (ps : List Str) (ds : List Value), FnG P w K mg base k f fd ps sp ∧ mg x = some (.ref f) ∧ PySem.W.keepIn K (.ref f) = true ∧ Binds K fd ps ds ∧ Vals dvs ds
theorem pe_cG {k j : Nat} {x : Str} {sp : Sp} {dvs : List V} {p pos : Pos} {e : Expr} {es : List Expr} {t : TA} (c : CalG X.prog X.w X.K X.mg X.base k x sp dvs) (un : Un X.A) (hr : Room j X.A) (hk : k ≤ j) (hg : Gl X x) (ha : PA X (e :: es) t)
    (hdb : (x == ("__debug__" : Str)) = false := by decide) (he : starEach (e :: es) X.env = (false, eval e X.env) :: starEach es X.env := by rfl) (hpl : (backTo pos (starEach es X.env)).any (·.1) = false := by rfl) :
    PE X (.Call (.Name x p) (e :: es) [] pos) (tCall sp dvs C8.E0 t) := by
  obtain ⟨f, fd, ps, ds, F, hm, kp, b, d⟩ := c.ex
  refine ⟨fun pins s σ H Q I h => wpAny_Call_Name_kw (ld_glob I hg hm ?_ hdb)⟩
  refine PySem.W.callWith_K (h₀ := X.base) I.ok.mod.kin kp (thn (ha.run pos pins s σ H _ I h) fun us s1 ⟨vs, H1, I1, r, q⟩ => ⟨I1.kIn, ?_⟩) he hpl
  have r2 : Vals (vs ++ dvs) (us ++ ds) := r.append d
  refine wpAny_call (codeAny_mono (F.does X.A X.stack s1 H1 ⟨us, []⟩ (us ++ ds) (vs ++ dvs) Q C8.E0 un (hr.mono hk) I1.env0 (b s1 us I1.kIn (by rw [← r2.length]; exact F.many _ _ _ _ q)) r2 q) fun res s2 hq => ?_)
  match res, hq with
  | .error e, hq => exact C8.pass0 (E := C8.E0) pins σ H1 s1 e s2 I1 hq
  | .ok (.ret _), hq => exact I1.after hq
  | .ok .next, hq => exact hq.elim
  | .ok .brk, hq => exact hq.elim
  | .ok .cont, hq => exact hq.elim
/-- repr of lists and tuples -/
def rRepr (K : PySem.W.Frag) : List V → Hp → VK → Prop := fun vs H Q => ∃ (v : V) (d : PyData), vs = [v] ∧ Dp K H v d ∧ PyProof.Rows.isDisplay d = true ∧ d.showable = true ∧ d.hasDict = false ∧ d.depth ≤ 60 ∧ d.shown.length ≤ sizeLine ∧ Q (.str d.shown) H
theorem call_reprD (hK : X.K = K) (un : Un X.A) (hu : X.A.units + 64 < cLine) : CallR X (.builtin "repr") (rRepr K) := by
  subst hK
  intro pins s σ H vs us Q I r h
  obtain ⟨v, d, rfl, hd, hi, hs, hn, h6, hl, q⟩ := h
  obtain ⟨u, rfl, ru⟩ := vals1 r
  obtain ⟨as, r1⟩ := Dp.reads I d v u hd ru
  obtain ⟨a, rfl⟩ := PyProof.Rows.isRef_of_reads r1 hi
  exact repr_of_reads' r1 hs (PyData.noDict_hsm hn) un (by omega) (fun _ _ e => e) (fun h' t tk hk => ⟨.str d.shown, H, I.kept hk, ⟨t, rfl⟩, q⟩) hl
end Gd
namespace Gd
open PySem PySem.Spec PyProof.Rows L2
variable {P : Program} {w : World} {K : PySem.W.Frag} {mg mb : Str → Option Value} {k : Nat} {fa a : Addr} {fd : FuncData} {x : Str} {sp : Sp} {s : Shared} {vs : List Value} {ns : List Int}
/-- what a law's end wants of its call -/
abbrev Done (s : Shared) (r : Result) (s' : Shared) : Prop := r = .ok (.ret (.bool true)) ∧ OldK s.heap s'.heap ∧ s'.os = s.os ∧ AllBare s'.gens
theorem from_heap {H : Hp} (hO : Only H) (hS : SqL K H a (ns.map V.int)) (hok : HOk P w H s.heap) (hA : ∀ b, H b ≠ none → b = a) (hK : H a ≠ none → K.lookup a = none)
    (kin : K.In s.heap) (hm : s.heap.Ns mainGlobals mg) (hb : s.heap.Ns builtinsNs mb) (hbb : ∀ x : Str, x ≠ "__name__" → mb x = bootBuiltins x) (lim : s.heap.NoLimit) (bare : s.gens = #[])
    (ha : s.heap.get? a = some { cls := .type "list", data := .seq vs.toArray }) (hr : Room k callerA)
    (F : ∀ base : Heap, K.In base → base.Ns mainGlobals mg → FnG P w K mg base k fa fd [x] sp) (bind : ∀ (s : Shared) (u : Value), BindsTo s fd ⟨[u], []⟩ [(x, u)])
    (hsp : sp [.ref a] H (fun v _ => v = .bl true) fun _ _ _ => False) :
    codeAny (model P w) callerA (.call (.ref fa) ⟨[.ref a], []⟩) (Done s) s := by
  have clean : ∀ {b : Addr} {o : Obj}, s.heap.get? b = some o → (b = a → False) → (hidT s.heap H).get? b = some o := fun {b o} e n => hidT_get e (by
    cases q : H b with
    | none => rfl
    | some u => exact (n (hA b (by rw [q]; exact fun z => by cases z))).elim)
  have dict_ne : ∀ {b : Addr} {o : Obj} {es : Array DictEntry} {ep : Nat}, s.heap.get? b = some o → o.data = .dict es ep → b = a → False := fun {b o es ep} e d q => by
    subst q
    rw [ha] at e
    cases e
    cases d
  have ns_ : ∀ {b : Addr} {m : Str → Option Value}, s.heap.Ns b m → (hidT s.heap H).Ns b m := fun ⟨o, es, ep, e, d, r⟩ => ⟨o, es, ep, clean e (dict_ne e d), d, r⟩
  have kin2 : K.In (hidT s.heap H) := fun b o e => hidT_get (kin b o e) (by
    cases q : H b with
    | none => rfl
    | some u =>
      have z := hA b (by rw [q]; exact fun z => by cases z)
      subst z
      rw [hK (by rw [q]; exact fun z => by cases z)] at e
      cases e)
  obtain ⟨mc, c1, c2⟩ := lim
  have M : Mod K mg (hidT s.heap H) := ⟨kin2, ns_ hm, ⟨mb, ns_ hb, hbb⟩, mc, ns_ c1, c2⟩
  have E0 : Env0 P w K mg (hidT s.heap H) callerA [] s H := ⟨rfl, M, fun b o e => of_hidT e, Nat.le_of_eq (hidT_size _ _), trivial, (fun b h => by cases h), hok, .of_eq bare⟩
  refine codeAny_mono ((F _ kin2 (ns_ hm)).does callerA [] s H ⟨[.ref a], []⟩ [.ref a] [.ref a] _ _ rfl hr E0 (bind s (.ref a)) (.cons rfl .nil) hsp) fun r s' h => ?_
  match r, h with
  | .error _, h => exact h.elim
  | .ok .next, h => exact h.elim
  | .ok .brk, h => exact h.elim
  | .ok .cont, h => exact h.elim
  | .ok (.ret u), ⟨v, H', os, br, un, hok', r', q⟩ =>
    cases q
    cases r'
    refine ⟨rfl, OldK.of_keep fun b o e => ?_, os, br⟩
    rcases hO b with z | ⟨ob, xs, z⟩
    · exact un.keep b o e z (fun m => by cases m) (fun m => by cases m)
    · obtain ⟨e1, _⟩ := hok b _ z
      obtain ⟨e2, _⟩ := hok' b _ (un.frzs b ob _ z)
      rw [e] at e1
      cases e1
      exact e2
/-- the end of a law whose def shows things -/
theorem lawG {l : PySem.W.OpenLaw} {n : Nat} {q : Program} {loose : List Str} {XP : (Str → Option Value) → Heap → Prop} {YP : World → Heap → Prop} {d : DefRec} (hn : l.most = some n) (hn2 : n ≤ sizeLine) (hdf : d.params.defaults = []) (hr : Room k callerA)
    (F : ∀ (w : World) (mg : Str → Option Value) (fa : Addr) (h : Heap), YP w h → h.Ns mainGlobals mg → mg d.name = some (.ref fa) → ∃ (K : PySem.W.Frag) (fd : FuncData) (sp : Sp), K.In h ∧ (∀ (s : Shared) (u : Value), BindsTo s fd ⟨[u], []⟩ [(x, u)]) ∧
      (∀ (H : Hp) (a : Addr) (ns : List Int), ns.length ≤ n → Only H → SqL K H a (ns.map V.int) → sp [.ref a] H (fun v _ => v = .bl true) fun _ _ _ => False) ∧ ∀ base : Heap, K.In base → base.Ns mainGlobals mg → FnG l.prog w K mg base k fa fd [x] sp) :
    PySem.W.WalkO q loose XP YP l.row.toRowW d [] (fun f vs => PySem.call f vs) := by
  refine Att.attach_call hn hdf fun w s₀ s mg mb fa o pm cd doc a vs ns G Y _ _ _ hmg ha hi hlen bare => ?_
  obtain ⟨K, fd, sp, kin, bind, hsp, hF⟩ := F w mg fa _ Y G.T.g hmg
  have rv := vals_ints hi
  have lz : ns.length ≤ sizeLine := Nat.le_trans hlen hn2
  cases hk : K.lookup a with
  | some o =>
    have e := kin a o hk
    rw [ha] at e
    cases e
    have hS : SqL K (fun _ => none) a (ns.map V.int) := .inr ⟨_, vs.toArray, _, hk, rfl, rfl, rfl, by rw [List.size_toArray, hi.length]; exact lz, by simpa using rv⟩
    exact from_heap (fun _ => .inl rfl) hS (fun _ _ z => by cases z) (fun _ z => absurd rfl z) (fun z => absurd rfl z) kin G.T.g G.T.b G.T.builtins G.T.nolimit bare ha hr hF bind (hsp _ a ns hlen (fun _ => .inl rfl) hS)
  | none =>
    have hS : SqL K (upd (fun _ => none) a (.frz { cls := .type "list", data := .seq vs.toArray } (.lst (ns.map V.int)))) a (ns.map V.int) := .inl (.inr ⟨_, upd_same⟩)
    have hO : Only (upd (fun _ => none) a (.frz { cls := .type "list", data := .seq vs.toArray } (.lst (ns.map V.int)))) := fun b => by
      by_cases c : b = a
      · subst c; exact .inr ⟨_, _, upd_same⟩
      · exact .inl (by rw [upd_ne c])
    refine from_heap hO hS (fun b u z => ?_) (fun b z => ?_) (fun _ => hk) kin G.T.g G.T.b G.T.builtins G.T.nolimit bare ha hr hF bind (hsp _ a ns hlen hO hS)
    · by_cases c : b = a
      · subst c
        rw [upd_same] at z
        cases z
        exact ⟨ha, by rw [List.length_map]; exact lz, vs, _, rv, ha⟩
      · rw [upd_ne c] at z
        cases z
    · by_cases c : b = a
      · exact c
      · rw [upd_ne c] at z
        exact absurd rfl z
end Gd
/-! ### C(), a class without __init__ -/
namespace Gd
open PySem PySem.Spec PyProof.Rows L2 PySem.W
variable {X : Cx} {C : Addr} {x : Str} {p pos : Pos}
structure New0 (K : PySem.W.Frag) (C : Addr) : Prop where
  makes : makesIn K C = true
  kp : keepIn K (.ref C) = true
  init : findIn K (.ref C) "__init__" = some (some (.builtin "object.__init__"))
def tNew0 (C : Addr) : TE := fun _ H Q => ∀ x dx, H x = none → H dx = none → dx ≠ x → Q (.ref x) (upd (upd H dx (.own x)) x (.ins C dx []))
theorem pe_new0 (N : New0 X.K C) (hg : Gl X x) (hm : X.mg x = some (.ref C)) (hdb : (x == ("__debug__" : Str)) = false := by decide) : PE X (.Call (.Name x p) [] [] pos) (tNew0 C) := by
  refine ⟨fun pins s σ H Q I h => wpAny_Call_Name_kw (ld_glob I hg hm ?_ hdb)⟩
  have hq := h (s.heap.objs.size + 1) s.heap.objs.size (I.hok.fresh (Nat.le_succ _)) (I.hok.fresh (Nat.le_refl _)) (Nat.ne_of_lt (Nat.lt_succ_self _))
  have I2 := Inv.made (C := C) I
  have Y := makes_of (M := model X.prog X.w) I.kIn N.makes
  have lk : ((s.heap.push emptyDict).push (instObj C s.heap.objs.size)).get? (s.heap.objs.size + 1) = some (instObj C s.heap.objs.size) := by
    have e : s.heap.objs.size + 1 = (s.heap.push emptyDict).objs.size := (Heap.size_push _ _).symm
    rw [e]
    exact Heap.get?_push_size _ rfl
  have isC : Looks (model X.prog X.w) ((s.heap.push emptyDict).push (instObj C s.heap.objs.size)) (typeOf (.ref (s.heap.objs.size + 1))) (.ref C) := (Looks.ld lk).andThen .now
  have isO : Looks (model X.prog X.w) ((s.heap.push emptyDict).push (instObj C s.heap.objs.size)) (isInstance (.ref (s.heap.objs.size + 1)) (.type "object")) true :=
    isC.andThen (Y.top.keeps fun b o e => Heap.get?_push_of_some _ (Heap.get?_push_of_some _ e))
  refine callWith_K0 I.kIn N.kp (wpAny_call (make_map0 I.kIn N.makes N.init (fun self => Looks.of_pure (oi_bind self)) ?_))
  refine codeAny_call_builtin oi_plain entry_oi (check_slot oi_kind oi_split isO (oi_args _) ?_)
  rw [oi_run]
  exact wpAny_pure ⟨rfl, .ref _, _, I2, rfl, hq⟩
end Gd
/-! ### set(xs), the texts of xs all different, any number of them; len(set(xs)) -/
namespace Ts
open PySem PySem.Spec PyProof.Rows
section
variable {p : Program} {w : World} {A : Around} {R : Result → Shared → Prop} {E : Value → Shared → Prop} {I : Addr} {fp wr : List Addr} {G : Array GenState → Array GenState → Prop} {n : Nat} {P : Nat → Value → Prop} {St : Nat → Shared → Prop} {s : Shared}
/-- the first i of xs are in the set at S -/
def Has (p : Program) (w : World) (h : Heap) (S : Addr) (xs : List Str) (i : Nat) : Prop := h.SetOf (PySem.strKind p w) S (fun z => decide (z ∈ xs.take i)) i
theorem Has.at_ {h h' : Heap} {S : Addr} {xs : List Str} {i : Nat} (k : ∀ o, h.get? S = some o → h'.get? S = some o) : Has p w h S xs i → Has p w h' S xs i
  | ⟨o, es, ep, t, ho, r⟩ => ⟨o, es, ep, t, k o ho, r⟩
theorem Has.fresh {h : Heap} {S : Addr} {xs : List Str} {led : Bool} (e : h.get? S = some { cls := .type "set", dict := none, data := .set #[] 0 (.fresh 0 0 led) }) : Has p w h S xs 0 :=
  SetOf_congr ((setObjOf_fresh (knd := PySem.strKind p w) led).setOf e (by unfold scanBound; omega)) (fun k => by simp) rfl
theorem nodup_next {xs : List Str} {i : Nat} (nd : xs.Nodup) (hi : i < xs.length) : xs.getD i Str.empty ∉ xs.take i ∧ ∀ z, z ∈ xs.take (i + 1) ↔ z ∈ xs.take i ∨ z = xs.getD i Str.empty := by
  have eg : xs.getD i Str.empty = xs[i] := by rw [List.getD_eq_getElem?_getD, List.getElem?_eq_getElem hi]; rfl
  have et : xs.take (i + 1) = xs.take i ++ [xs[i]] := by rw [List.take_succ, List.getElem?_eq_getElem hi]; rfl
  rw [eg]
  refine ⟨fun hm => ?_, fun z => by rw [et, List.mem_append, List.mem_singleton]⟩
  have nd2 : (xs.take (i + 1)).Nodup := nd.sublist (List.take_sublist _ _)
  rw [et] at nd2
  exact (List.nodup_append.mp nd2).2.2 _ hm _ List.mem_cons_self rfl
/-- the loop: text behind text -/
theorem upd_strs (W : WalksS p w A.in1 I fp wr G n P St) {S : Addr} (hSf : S ∉ fp) {xs : List Str} (hn : xs.length = n) (nd : xs.Nodup) (hb : n + 1 < scanBound) (hval : ∀ i v, P i v → ∃ t, v = .str (xs.getD i Str.empty) t) :
    ∀ (j i : Nat) (s : Shared), i + j = n → St i s → Has p w s.heap S xs i → (∀ s', Moved (S :: wr) G s s' → Has p w s'.heap S xs n → R (.ok (.ret .none)) s') →
      codeAny (model p w) A (.builtin "set.update.loop" ⟨[.ref S, .ref I], []⟩) R s := by
  have nw : S ∉ wr := fun z => hSf (W.sub _ z)
  have up : ∀ b ∈ wr, b ∈ S :: wr := fun _ z => .tail _ z
  intro j
  induction j with
  | zero =>
    rintro i s rfl hs hS hR
    refine codeAny_builtin PyProof.Rows.F.entry_set_update_loop ?_
    rw [Around.under_plainId PyProof.Rows.F.plain_set_update_loop _]
    exact wpAny_bind (W.done s _ _ hs fun s' m => wpAny_pure (hR s' (m.mono up) (hS.at_ fun o e => m.heap S o nw e)))
  | succ j ih =>
    intro i s hij hs hS hR
    refine codeAny_builtin PyProof.Rows.F.entry_set_update_loop ?_
    rw [Around.under_plainId PyProof.Rows.F.plain_set_update_loop _]
    refine wpAny_bind (W.item i s _ _ (by omega) hs fun v s1 hP hs1 m => ?_)
    obtain ⟨t, rfl⟩ := hval i v hP
    have hS1 : Has p w s1.heap S xs i := hS.at_ fun o e => m.heap S o nw e
    obtain ⟨n1, n2⟩ := nodup_next (i := i) nd (by omega)
    show wpAny _ A.in1 (holding [Value.str (xs.getD i Str.empty) t] (setAdd S (.str (xs.getD i Str.empty) t)) >>= _) _ _ s1
    refine wpAny_bind (wpAny_holding ?_)
    unfold setAdd
    refine wpAny_holding (wpAny_bind ((PySem.strKind p w).pyHash (k := xs.getD i Str.empty) (strKind_is _ _ _ _) ?_))
    refine wpAny_setAddHashed_of (knd := PySem.strKind p w) (s := { s1 with toks := s1.toks + 1 }) (strKind_is _ _ _ _) rfl hS1 (by omega) fun h2 sb hS2 => ?_
    have hS3 : Has p w h2 S xs (i + 1) := SetOf_congr hS2 (fun z => by
      rw [Bool.eq_iff_iff]
      simp only [Bool.or_eq_true, decide_eq_true_eq]
      exact (n2 z).symm) (if_neg (by rw [decide_eq_true_eq]; exact n1))
    refine wpAny_pure ⟨plainId_quiet PyProof.Rows.F.plain_set_update_loop _, ih (i + 1) _ (by omega) (W.frame _ s1 _ _ hs1 (Nat.le_succ _) fun b hb' o e => ?_) hS3 fun s3 m3 hS4 => hR s3 (Moved.trans W.gtrans ((m.mono up).then_heap (Nat.le_succ _) fun b o nb e => ?_) m3) hS4⟩
    · exact (sb.2 b fun z => hSf (z ▸ hb')).trans e
    · exact (sb.2 b fun z => nb (z ▸ .head _)).trans e
end
/-- a set that was just laid -/
abbrev nset (led : Bool) : Obj := { cls := .type "set", dict := none, data := .set #[] 0 (.fresh 0 0 led) }

theorem set_list {p : Program} {w : World} {A : Around} {E : Value → Shared → Prop} {s : Shared} {l : Addr} {its : Array Value} {xs : List Str} {Q : Value → Shared → Prop} (hh : A.handled = none) (hl : s.heap.IsList l its) (hi : StrsAre its.toList xs) (nd : xs.Nodup) (hb : xs.length + 1 < scanBound)
    (h : ∀ (h' : Heap) (tk : Nat), Has p w h' s.heap.objs.size xs xs.length → (∀ b o, b < s.heap.objs.size → s.heap.get? b = some o → h'.get? b = some o) → Q (.ref s.heap.objs.size) { s with heap := h', toks := tk }) :
    wpAny (model p w) A (call (.type "set") [.ref l]) Q E s := by
  obtain ⟨c, tl, hmro⟩ := PySem.F.called_set.mro
  have f1 := PySem.F.called_set.made
  have f2 := PySem.F.called_set.sub
  have f3 := PySem.F.called_set.notType
  have f4 := PySem.F.called_set.canCreate
  have f5 := PySem.F.typeCall_set_1 (.ref l)
  refine wpAny_call (codeAny_of_tree ?_)
  show wpAny _ _ (callAny (.type "set") _) _ _ _
  refine wpAny_pure ⟨Code.quiet_builtin _ (by decide +kernel), codeAny_builtin PySem.F.entry_type_call ?_⟩
  rw [Around.under_plain (weight_type_call_type "set" [.ref l] []) rfl]
  repeat (any_goals (first | assumption | wp_step))
  refine codeAny_mono (code_set_new_1 (.ref l) (E := E) (Q₁ := fun u s₁ => ∃ led, u = .ref s.heap.objs.size ∧ s₁ = { s with heap := s.heap.push (nset led) }) fun led => ⟨led, rfl, rfl⟩) fun r s₁ hr => ?_
  match r, hr with
  | .error _, hr => exact hr
  | .ok .next, hr => exact hr.elim
  | .ok .brk, hr => exact hr.elim
  | .ok .cont, hr => exact hr.elim
  | .ok (.ret u), hr =>
  obtain ⟨led, rfl, rfl⟩ := hr
  have hS : (s.heap.push (nset led)).get? s.heap.objs.size = some (nset led) := Heap.get?_push_size _ rfl
  have hT : Shared.TypeIs { s with heap := s.heap.push (nset led) } (.ref s.heap.objs.size) "set" := ⟨_, hS, rfl⟩
  have g1 := PySem.F.called_set.init.lookup
  have g2 := PySem.F.called_set.init.bind (.ref s.heap.objs.size)
  repeat (any_goals (first | assumption | wp_step))
  refine codeAny_mono (codeAny_call_builtin (R := wants (fun r s₂ => r = .none ∧ ∃ h' tk, s₂ = { s with heap := h', toks := tk } ∧ Has p w h' s.heap.objs.size xs xs.length ∧ (∀ b o, b < s.heap.objs.size → s.heap.get? b = some o → h'.get? b = some o)) E) PySem.F.called_set.init.plain PySem.F.entry_set_init (check_set_init_1 hT ?_)) fun r₂ s₂ hr₂ => ?_
  · obtain ⟨⟨oc, od, dt, sl⟩, ho, hc, nl, hd⟩ := hl
    simp only at hc hd
    subst hc hd
    have ho' : (s.heap.push (nset led)).get? l = some { cls := .type "list", dict := od, data := .seq its nl, slots := sl } := Heap.get?_push_of_some _ ho
    have t1 := PySem.F.sub_list_set
    have t2 := PySem.F.sub_list_frozenset
    have t3 : (Value.type "list" == Value.type "dict") = false := by decide
    have hl1 : (s.heap.push (nset led)).IsList l its := ⟨_, ho', rfl, nl, rfl⟩
    unfold Builtin.«set.__init__» noKeywords Builtin.Frozenset.updateFrom
    generalize hPI : pyIter = PI
    wp_walk
    subst hPI
    have lt := Heap.lt_size ho
    have sz : (s.heap.push (nset led)).objs.size = s.heap.objs.size + 1 := Heap.size_push _ _
    have ne : l ≠ (s.heap.push (nset led)).objs.size := by rw [sz]; exact Nat.ne_of_lt (Nat.lt_succ_of_lt lt)
    refine wpAny_pyIter_list hl1 (wpAny_bind (wpAny_runValue ?_))
    refine upd_strs (xs := xs) (S := s.heap.objs.size) ((Walks.list (A := A.in1.in1.in1) (by simp [hh]) _ l ne its).toS) ?_ (by rw [← StrsAre.len_eq hi, Array.length_toList]) nd (by rw [← Array.length_toList, StrsAre.len_eq hi]; exact hb) (fun i v hv => SS.strs_at hi i v (by rw [Array.getElem?_toList]; exact hv)) its.size 0 _ (Nat.zero_add _)
      ⟨⟨_, Heap.get?_push_size _ rfl, rfl, rfl⟩, hl1.push _⟩ (.fresh (led := led) (Heap.get?_push_of_some _ hS)) ?_
    · rw [sz]
      simp only [List.mem_cons, List.not_mem_nil, or_false, not_or]
      exact ⟨Nat.ne_of_lt (Nat.lt_succ_self _), Nat.ne_of_gt lt⟩
    · rintro ⟨h', g', d', tk', os'⟩ m hS'
      obtain rfl : g' = s.gens := m.gens
      obtain rfl : d' = s.drawn := m.drawn
      obtain rfl : os' = s.os := m.os
      rw [show its.size = xs.length by rw [← Array.length_toList, StrsAre.len_eq hi]] at hS'
      refine wpAny_pure (wpAny_pure ⟨rfl, h', tk', rfl, hS', fun b o hb e => m.heap b o ?_ (Heap.get?_push_of_some _ (Heap.get?_push_of_some _ e))⟩)
      rw [sz]
      simp only [List.mem_cons, List.not_mem_nil, or_false, not_or]
      exact ⟨Nat.ne_of_lt hb, Nat.ne_of_lt (Nat.lt_succ_of_lt hb)⟩
  · match r₂, hr₂ with
    | .error _, hr₂ => exact hr₂
    | .ok .next, hr₂ => exact hr₂.elim
    | .ok .brk, hr₂ => exact hr₂.elim
    | .ok .cont, hr₂ => exact hr₂.elim
    | .ok (.ret r), hr₂ =>
      obtain ⟨rfl, h', tk, rfl, q1, q2⟩ := hr₂
      repeat (any_goals (first | assumption | wp_step))
      exact h _ _ q1 q2

theorem set_tuple {p : Program} {w : World} {A : Around} {E : Value → Shared → Prop} {s : Shared} {l : Addr} {its : Array Value} {xs : List Str} {Q : Value → Shared → Prop} (hh : A.handled = none) (hl : s.heap.IsTuple l its) (hi : StrsAre its.toList xs) (nd : xs.Nodup) (hb : xs.length + 1 < scanBound)
    (h : ∀ (h' : Heap) (tk : Nat), Has p w h' s.heap.objs.size xs xs.length → (∀ b o, b < s.heap.objs.size → s.heap.get? b = some o → h'.get? b = some o) → Q (.ref s.heap.objs.size) { s with heap := h', toks := tk }) :
    wpAny (model p w) A (call (.type "set") [.ref l]) Q E s := by
  obtain ⟨c, tl, hmro⟩ := PySem.F.called_set.mro
  have f1 := PySem.F.called_set.made
  have f2 := PySem.F.called_set.sub
  have f3 := PySem.F.called_set.notType
  have f4 := PySem.F.called_set.canCreate
  have f5 := PySem.F.typeCall_set_1 (.ref l)
  refine wpAny_call (codeAny_of_tree ?_)
  show wpAny _ _ (callAny (.type "set") _) _ _ _
  refine wpAny_pure ⟨Code.quiet_builtin _ (by decide +kernel), codeAny_builtin PySem.F.entry_type_call ?_⟩
  rw [Around.under_plain (weight_type_call_type "set" [.ref l] []) rfl]
  repeat (any_goals (first | assumption | wp_step))
  refine codeAny_mono (code_set_new_1 (.ref l) (E := E) (Q₁ := fun u s₁ => ∃ led, u = .ref s.heap.objs.size ∧ s₁ = { s with heap := s.heap.push (nset led) }) fun led => ⟨led, rfl, rfl⟩) fun r s₁ hr => ?_
  match r, hr with
  | .error _, hr => exact hr
  | .ok .next, hr => exact hr.elim
  | .ok .brk, hr => exact hr.elim
  | .ok .cont, hr => exact hr.elim
  | .ok (.ret u), hr =>
  obtain ⟨led, rfl, rfl⟩ := hr
  have hS : (s.heap.push (nset led)).get? s.heap.objs.size = some (nset led) := Heap.get?_push_size _ rfl
  have hT : Shared.TypeIs { s with heap := s.heap.push (nset led) } (.ref s.heap.objs.size) "set" := ⟨_, hS, rfl⟩
  have g1 := PySem.F.called_set.init.lookup
  have g2 := PySem.F.called_set.init.bind (.ref s.heap.objs.size)
  repeat (any_goals (first | assumption | wp_step))
  refine codeAny_mono (codeAny_call_builtin (R := wants (fun r s₂ => r = .none ∧ ∃ h' tk, s₂ = { s with heap := h', toks := tk } ∧ Has p w h' s.heap.objs.size xs xs.length ∧ (∀ b o, b < s.heap.objs.size → s.heap.get? b = some o → h'.get? b = some o)) E) PySem.F.called_set.init.plain PySem.F.entry_set_init (check_set_init_1 hT ?_)) fun r₂ s₂ hr₂ => ?_
  · obtain ⟨⟨oc, od, dt, sl⟩, ho, hc, nl, hd⟩ := hl
    simp only at hc hd
    subst hc hd
    have ho' : (s.heap.push (nset led)).get? l = some { cls := .type "tuple", dict := od, data := .seq its nl, slots := sl } := Heap.get?_push_of_some _ ho
    have t1 := PySem.F.sub_tuple_set
    have t2 := PySem.F.sub_tuple_frozenset
    have t3 : (Value.type "tuple" == Value.type "dict") = false := by decide
    have hl1 : (s.heap.push (nset led)).IsTuple l its := ⟨_, ho', rfl, nl, rfl⟩
    unfold Builtin.«set.__init__» noKeywords Builtin.Frozenset.updateFrom
    generalize hPI : pyIter = PI
    wp_walk
    subst hPI
    have lt := Heap.lt_size ho
    have sz : (s.heap.push (nset led)).objs.size = s.heap.objs.size + 1 := Heap.size_push _ _
    have ne : l ≠ (s.heap.push (nset led)).objs.size := by rw [sz]; exact Nat.ne_of_lt (Nat.lt_succ_of_lt lt)
    refine wpAny_pyIter_tuple hl1 (wpAny_bind (wpAny_runValue ?_))
    refine upd_strs (xs := xs) (S := s.heap.objs.size) ((Walks.tuple (A := A.in1.in1.in1) (by simp [hh]) _ l ne its).toS) ?_ (by rw [← StrsAre.len_eq hi, Array.length_toList]) nd (by rw [← Array.length_toList, StrsAre.len_eq hi]; exact hb) (fun i v hv => SS.strs_at hi i v (by rw [Array.getElem?_toList]; exact hv)) its.size 0 _ (Nat.zero_add _)
      ⟨⟨_, Heap.get?_push_size _ rfl, rfl, rfl⟩, hl1.push _⟩ (.fresh (led := led) (Heap.get?_push_of_some _ hS)) ?_
    · rw [sz]
      simp only [List.mem_cons, List.not_mem_nil, or_false, not_or]
      exact ⟨Nat.ne_of_lt (Nat.lt_succ_self _), Nat.ne_of_gt lt⟩
    · rintro ⟨h', g', d', tk', os'⟩ m hS'
      obtain rfl : g' = s.gens := m.gens
      obtain rfl : d' = s.drawn := m.drawn
      obtain rfl : os' = s.os := m.os
      rw [show its.size = xs.length by rw [← Array.length_toList, StrsAre.len_eq hi]] at hS'
      refine wpAny_pure (wpAny_pure ⟨rfl, h', tk', rfl, hS', fun b o hb e => m.heap b o ?_ (Heap.get?_push_of_some _ (Heap.get?_push_of_some _ e))⟩)
      rw [sz]
      simp only [List.mem_cons, List.not_mem_nil, or_false, not_or]
      exact ⟨Nat.ne_of_lt hb, Nat.ne_of_lt (Nat.lt_succ_of_lt hb)⟩
  · match r₂, hr₂ with
    | .error _, hr₂ => exact hr₂
    | .ok .next, hr₂ => exact hr₂.elim
    | .ok .brk, hr₂ => exact hr₂.elim
    | .ok .cont, hr₂ => exact hr₂.elim
    | .ok (.ret r), hr₂ =>
      obtain ⟨rfl, h', tk, rfl, q1, q2⟩ := hr₂
      repeat (any_goals (first | assumption | wp_step))
      exact h _ _ q1 q2
end Ts
namespace L2
open PySem PySem.Spec PyProof.Rows
/-- len(set(xs)), texts all different -/
def tLenSetN (K : PySem.W.Frag) (ta : TE) : TE := fun σ H Q => ta σ H fun x H1 => ∃ (l : Addr) (xs : List Str), x = .ref l ∧ (SqL K H1 l (xs.map V.str) ∨ SqT K H1 l (xs.map V.str)) ∧ xs.Nodup ∧ xs.length + 1 < scanBound ∧ Q (.int xs.length) H1
theorem pe_lenSetN {X : Cx} {K : PySem.W.Frag} {a : Expr} {ta : TE} {p p2 q pos : Pos} (hK : X.K = K) (hc : X.calm = true) (hg : Gl X "len") (hm : X.mg "len" = none) (hg2 : Gl X "set") (hm2 : X.mg "set" = none) (ha : PE X a ta)
    (na : starEach [a] X.env = (false, eval a X.env) :: starEach [] X.env := by rfl) : PE X (.Call (.Name "len" p) [.Call (.Name "set" p2) [a] [] q] [] pos) (tLenSetN K ta) := by
  subst hK
  refine ⟨fun pins s σ H Q I h => ?_⟩
  refine Call_ (ld_blt I hg hm boot_len (callWith_builtin1 (args_cons ?_ rfl) rfl rfl))
  refine Call_ (ld_blt I hg2 hm2 boot_set (callWith_type1 (args_cons (thn (ha.run pins s σ H _ I h) fun v s1 ⟨x, H1, I1, r1, l, xs, e, hq, nd, hb, q1⟩ => args_nil ?_) na) na rfl))
  subst e
  cases r1
  have fin : ∀ (h' : Heap) (tk : Nat), Ts.Has X.prog X.w h' s1.heap.objs.size xs xs.length → (∀ b o, b < s1.heap.objs.size → s1.heap.get? b = some o → h'.get? b = some o) →
      wpAny (model X.prog X.w) X.A (spliced (backTo pos (starEach [] X.env))) (fun vs s₂ => wpAny (model X.prog X.w) X.A (call (.builtin "len") (Value.ref s1.heap.objs.size :: vs)) (EP X pins σ Q) X.xe s₂) X.xe { s1 with heap := h', toks := tk } := fun h' tk hS hk => by
    obtain ⟨o, es, ep, t, ho, hex, hd, _, _, _, hf, hn⟩ := hS
    have I2 : Inv X pins σ H1 { s1 with heap := h', toks := tk } := I1.kept fun b o e => hk b o (Heap.lt_size e) e
    exact args_nil (call_len_set ho hex hd hf (by rw [hn]; unfold scanBound at hb; omega) ⟨.int xs.length, H1, I2.tok _, ⟨_, by rw [hn]⟩, q1⟩)
  rcases hq with hq | hq
  · obtain ⟨its, r, pl, _⟩ := I1.list hq
    exact Ts.set_list (I1.ok.hd hc) pl.isList (by simpa using strsAre_of r) nd hb fin
  · obtain ⟨its, r, pl, _⟩ := I1.tuple hq
    exact Ts.set_tuple (I1.ok.hd hc) pl (by simpa using strsAre_of r) nd hb fin
end L2
namespace Bs
open PySem PySem.Spec PyProof.Rows L2
variable {X : Cx} {K : PySem.W.Frag}
/-- a statement that is never reached -/
def tNo : TS := fun _ _ _ => False
theorem ps_no {st : Stmt} : PS X st tNo := ⟨fun _ _ _ _ _ _ h => h.elim⟩
/-- o.m(e, ..) of a built-in thing, the written part named -/
theorem pe_bmK {o e : Expr} {es : List Expr} {to : TE} {t : TA} {name : Str} {apos cpos : Pos} {T id : String} {r : V → List V → Hp → VK → Prop} (hK : X.K = K) (pa : PlainAttrs T) (slot : Slot T name id) (hty : typeOf (.builtin id) = pure (.type "method_descriptor")) (hm : MtR X id r) (ho : PE X o to) (ha : PA X (e :: es) t)
    (hbase : attributeBase o name X.env (eval o X.env) = eval o X.env := by rfl)
    (hfew : ((backTo cpos (starEach (e :: es) X.env)).all (fun x => !x.1) && (backToKw cpos (keywordEach [] X.env)).all (fun x => x.1.isSome)
      && decide ((e :: es).length + ([] : List Keyword).length + (if ([] : List Keyword).isEmpty then 0 else 1) < 30)) = true := by rfl)
    (hline : (apos.endLine == cpos.line) = true := by rfl) (hs : starEach (e :: es) X.env = (false, eval e X.env) :: starEach es X.env := by rfl) (hplain : (backTo cpos (starEach es X.env)).any (·.1) = false := by rfl) :
    PE X (.Call (.Attribute o name apos) (e :: es) [] cpos) (tBM K T r to t) := by
  subst hK
  exact pe_bm pa slot hty hm ho ha hbase hfew hline hs hplain
/-- x in a tuple of data -/
def rInDT (K : PySem.W.Frag) : R2 := fun x y H Q => ∃ d ds, Dp K H x d ∧ Dp K H y (.tuple ds) ∧ SeqAt.shaped d = true ∧ SeqAt.shaped (.tuple ds) = true ∧ Q (.bl (ds.any fun z => PyData.eqv z d)) H
theorem op_inDT (hu : X.A.units + 65 < cLine) : OpR X (compareOp .In) (rInDT X.K) := by
  intro pins s σ H x y v u Q I rx ry h
  obtain ⟨d, ds, hd, he, sd, se, q⟩ := h
  obtain ⟨as, r1⟩ := Dp.reads I d x v hd rx
  obtain ⟨bs, r2⟩ := Dp.reads I (.tuple ds) y u he ry
  exact SeqAt.in_tuple_reads r2 r1 (SeqAt.canLay_of_shaped se) (SeqAt.canLay_of_shaped sd) (room_in_shaped sd hu) ⟨.bl _, H, I, rfl, q⟩
/-- C(e, .., k = v, ..) -/
structure MakP (P : Program) (w : World) (K : PySem.W.Frag) (mg : Str → Option Value) (base : Heap) (k : Nat) (x : Str) (C : Addr) (n : Nat) (ks : List Str) (gV : List V → List V → List V) (sp : Sp) : Prop where
  ex : ∃ (f : Addr) (fd : FuncData) (ps : List Str) (g : List Value → List Value → List Value), Mk K C f ∧ FnOk P w K mg base C8.CX0 k f fd ps sp ∧ mg x = some (.ref C) ∧ KBn K fd ps (n + 1) ks g gV
section
variable {k j n : Nat} {x m : Str} {sp : Sp} {ks : List Str} {gV : List V → List V → List V} {p pos apos : Pos} {kws : List Keyword} {t tk : TA} {C f : Addr} {e o : Expr} {es : List Expr} {ta : TE}
theorem pe_mkp (c : MakP X.prog X.w X.K X.mg X.base k x C n ks gV sp) (hr : Room j X.A) (hk : k + 1 ≤ j) (hg : Gl X x) (ha : PA X (e :: es) t) (hkw : PK X kws tk)
    (hall : (backToKw pos (keywordEach kws X.env)).all (·.1.isSome) = true := by rfl) (hks : (backToKw pos (keywordEach kws X.env)).filterMap (·.1) = ks := by rfl) (hdb : (x == ("__debug__" : Str)) = false := by decide)
    (he : starEach (e :: es) X.env = (false, eval e X.env) :: starEach es X.env := by rfl) (hpl : ((backTo pos (starEach (e :: es) X.env)).any (·.1) || (backToKw pos (keywordEach kws X.env)).any (·.1.isNone)) = false := by rfl) :
    PE X (.Call (.Name x p) (e :: es) kws pos) (tMakeK C n ks.length sp gV C8.E0 t tk) := by
  obtain ⟨f, fd, ps, g, M, F, hm, hb⟩ := c.ex
  exact pe_makeK M F (hr.mono hk) hg hm hb C8.pass0 ha hkw hall hks hdb he hpl
/-- o.m(e, ..), m a method with a star -/
structure MetR (P : Program) (w : World) (K : PySem.W.Frag) (mg : Str → Option Value) (base : Heap) (k : Nat) (C : Addr) (m : Str) (sp : Sp) : Prop where
  ex : ∃ f : Addr, Cls K C ∧ Meth K C m f ∧ FnR P w K mg base C8.CX0 k f sp
def tMethR (C : Addr) (m : Str) (sp : Sp) (ta : TE) (t : TA) : TE := fun σ H Q => ta σ H fun x H1 => ∃ a dx fs, x = .ref a ∧ H1 a = some (.ins C dx fs) ∧ fs.lookup m = none ∧ t σ H1 fun vs H2 => sp (x :: vs) H2 Q C8.E0
theorem pe_mtr {pl : Sem Bool} (c : MetR X.prog X.w X.K X.mg X.base k C m sp) (hr : Room j X.A) (hk : k ≤ j) (he : PE X o ta) (ha : PA X (e :: es) t)
    (hst : starEach (e :: es) X.env = (false, eval e X.env) :: starEach es X.env := by rfl) (hpl : (backTo pos (starEach es X.env)).any (·.1) = false := by rfl)
    (ht : eval (.Call (.Attribute o m apos) (e :: es) [] pos) X.env = (do
      let ov ← eval o X.env
      standAt apos.atName
      let (f, first) ← holding [ov] (getMethod ov m pl)
      callWith pos f first (backTo pos (starEach (e :: es) X.env)) (backToKw pos (keywordEach [] X.env))) := by rfl) : PE X (.Call (.Attribute o m apos) (e :: es) [] pos) (tMethR C m sp ta t) := by
  obtain ⟨f, c1, hm, F⟩ := c.ex
  refine ⟨fun pins s σ H Q I h => ?_⟩
  refine PySem.W.methodCall_KW (pl := pl) (thn (he.run pins s σ H _ I h) fun u s1 ⟨x, H1, I1, rx, a, dx, fs, ex, ea, l, q⟩ => ?_) ht
  subst ex
  obtain rfl : u = Value.ref a := rx
  refine getmeth_ok I1 ea c1 hm l ?_
  refine PySem.W.callWith_K (first := [.ref a]) (h₀ := X.base) I.ok.mod.kin hm.kp (thn (ha.run pos pins s1 σ H1 _ I1 q) fun us s2 ⟨vs, H2, I2, r, q2⟩ => ⟨I2.kIn, ?_⟩) hst hpl
  exact wpAny_call (run_fnR (us := .ref a :: us) (vs := .ref a :: vs) F (hr.mono hk) C8.pass0 I2 (.cons rfl r) q2)
theorem pe_mtr0 {pl : Sem Bool} (c : MetR X.prog X.w X.K X.mg X.base k C m sp) (hr : Room j X.A) (hk : k ≤ j) (he : PE X o ta)
    (ht : eval (.Call (.Attribute o m apos) [] [] pos) X.env = (do
      let ov ← eval o X.env
      standAt apos.atName
      let (f, first) ← holding [ov] (getMethod ov m pl)
      callWith pos f first (backTo pos (starEach [] X.env)) (backToKw pos (keywordEach [] X.env))) := by rfl) : PE X (.Call (.Attribute o m apos) [] [] pos) (tMethR C m sp ta tNil) := by
  obtain ⟨f, c1, hm, F⟩ := c.ex
  refine ⟨fun pins s σ H Q I h => ?_⟩
  refine PySem.W.methodCall_KW (pl := pl) (thn (he.run pins s σ H _ I h) fun u s1 ⟨x, H1, I1, rx, a, dx, fs, ex, ea, l, q⟩ => ?_) ht
  subst ex
  obtain rfl : u = Value.ref a := rx
  refine getmeth_ok I1 ea c1 hm l ?_
  exact PySem.W.callWith_K0 (first := [.ref a]) I1.kIn hm.kp (wpAny_call (run_fnR (us := [.ref a]) (vs := [.ref a]) F (hr.mono hk) C8.pass0 I1 (.cons rfl .nil) q))
end
end Bs
namespace Bs
open PySem PySem.Spec PyProof.Rows L2 SX
variable {P : Program} {w : World} {K : PySem.W.Frag} {mg : Str → Option Value} {base : Heap}
/-! ### the part of the heap that never changes again -/
def KpO (p : Option Addr) (H H' : Hp) : Prop := ∀ b o, H b = some o → some b ≠ p → H' b = some o
structure Step (p : Option Addr) (G H G' H' : Hp) : Prop where
  gg : Same G G'
  gh : Same G' H'
  new : ∀ b, G' b ≠ none → G b ≠ none ∨ H b = none
  kp : KpO p H H'
  pp : ∀ b, some b = p → H b ≠ none → H' b ≠ none
section
variable {p : Option Addr} {G H G1 H1 G2 H2 : Hp} {q : Addr} {o : HO}
theorem Step.refl (h : Same G H) : Step p G H G H := ⟨Same.refl G, h, fun b hb => .inl hb, fun b o e _ => e, fun b _ e => e⟩
theorem Step.keep (a : Step p G H G1 H1) {b : Addr} (hb : H b ≠ none) : H1 b ≠ none := by
  by_cases e : some b = p
  · exact a.pp b e hb
  · cases eh : H b with
    | none => exact absurd eh hb
    | some o => rw [a.kp b o eh e]; exact fun z => by cases z
theorem Step.free (a : Step p G H G1 H1) {b : Addr} (hb : H1 b = none) : H b = none := by
  cases eh : H b with
  | none => rfl
  | some o => exact absurd hb (a.keep (by rw [eh]; exact fun z => by cases z))
theorem Step.trans (a : Step p G H G1 H1) (b : Step p G1 H1 G2 H2) : Step p G H G2 H2 where
  gg := a.gg.trans b.gg
  gh := b.gh
  new c hc := by
    rcases b.new c hc with h | h
    · exact a.new c h
    · exact .inr (a.free h)
  kp c o e n := b.kp c o (a.kp c o e n) n
  pp c e h := b.pp c e (a.pp c e h)
theorem Step.out (a : Step p G H G1 H1) {b : Addr} (h1 : G b = none) (h2 : H b ≠ none) : G1 b = none := by
  cases e : G1 b with
  | none => rfl
  | some o =>
    rcases a.new b (by rw [e]; exact fun z => by cases z) with h | h
    · exact absurd h1 h
    · exact absurd h h2
theorem same_none (h : Same G H) (hq : H q = none) : G q = none := h.free hq
/-- a new object that will never change -/
theorem Step.new_ (a : Step p G H G1 H1) (hq : H1 q = none) : Step p G H (upd G1 q o) (upd H1 q o) where
  gg := Same.new a.gg (same_none a.gh hq)
  gh b u e := by
    by_cases c : b = q
    · subst c; rw [upd_same] at e ⊢; exact e
    · rw [upd_ne c] at e ⊢; exact a.gh b u e
  new b hb := by
    by_cases c : b = q
    · subst c; exact .inr (a.free hq)
    · rw [upd_ne c] at hb; exact a.new b hb
  kp b u e n := by
    have h := a.kp b u e n
    rw [upd_ne (ne_of_none h hq)]; exact h
  pp b e h := by
    have z := a.pp b e h
    have c : b ≠ q := fun c => z (by rw [c]; exact hq)
    rw [upd_ne c]; exact z
/-- an object that may change stands or changes at q, which was free at the start -/
theorem Step.loc (a : Step p G H G1 H1) (hq : H q = none) (gq : G1 q = none) : Step p G H G1 (upd H1 q o) where
  gg := a.gg
  gh b u e := by rw [upd_ne (ne_of_none e gq)]; exact a.gh b u e
  new := a.new
  kp b u e n := by rw [upd_ne (ne_of_none e hq)]; exact a.kp b u e n
  pp b e h := by
    have c : b ≠ q := fun c => h (by rw [c]; exact hq)
    rw [upd_ne c]; exact a.pp b e h
/-- what stands at a local q will never change again -/
theorem Step.freeze (a : Step p G H G1 H1) (hq : H q = none) (h : H1 q = some o) (gq : G1 q = none) : Step p G H (upd G1 q o) H1 where
  gg := Same.new a.gg gq
  gh b u e := by
    by_cases c : b = q
    · subst c; rw [upd_same] at e; rw [h]; exact e
    · rw [upd_ne c] at e; exact a.gh b u e
  new b hb := by
    by_cases c : b = q
    · subst c; exact .inr hq
    · rw [upd_ne c] at hb; exact a.new b hb
  kp := a.kp
  pp := a.pp
theorem Step.same (a : Step none G H G1 H1) : Same H H1 := fun b o e => a.kp b o e (fun z => by cases z)
theorem Step.some_ {c : Addr} (a : Step none G H G1 H1) : Step (some c) G H G1 H1 := ⟨a.gg, a.gh, a.new, fun b o e _ => a.same b o e, fun b _ h => by
  cases eh : H b with
  | none => exact absurd eh h
  | some o => rw [a.same b o eh]; exact fun z => by cases z⟩
theorem Kp.step {c : Addr} (k : Kp c H H1) (h : Same G H) (gc : G c = none) (hc : H c ≠ none → H1 c ≠ none) : Step (some c) G H G H1 where
  gg := Same.refl G
  gh b o e := k b o (h b o e) (ne_of_none e gc)
  new b hb := .inl hb
  kp b o e n := k b o e (fun z => n (by rw [z]))
  pp b e h := by rw [Option.some.inj e] at h ⊢; exact hc h
theorem Step.kpc {c : Addr} (a : Step (some c) G H G1 H1) : Kp c H H1 := fun b o e n => a.kp b o e fun z => n (Option.some.inj z)
end
/-- the pen stands at p, outside of what never changes -/
structure Ps (K : PySem.W.Frag) (G H : Hp) (p : Addr) (n : Nat) : Prop where
  gh : Same G H
  out : G p = none
  pen : Pen K H p n
theorem Ps.step {G H G1 H1 : Hp} {p : Addr} {n m : Nat} (a : Ps K G H p n) (s : Step (some p) G H G1 H1) (h : Pen K H1 p m) : Ps K G1 H1 p m := ⟨s.gh, s.out a.out a.pen.there, h⟩
theorem Ps.stepN {G H G1 H1 : Hp} {p : Addr} {n : Nat} (a : Ps K G H p n) (s : Step none G H G1 H1) : Ps K G1 H1 p n := ⟨s.gh, s.out a.out a.pen.there, a.pen.same s.same⟩
theorem Ps.draw {G H H1 : Hp} {p : Addr} {n : Nat} (a : Ps K G H p n) (k : Kp p H H1) (h : Pen K H1 p (n + 1)) : Step (some p) G H G H1 ∧ Ps K G H1 p (n + 1) := by
  have s : Step (some p) G H G H1 := Kp.step k a.gh a.out fun _ => h.there
  exact ⟨s, a.step s h⟩
theorem Ps.new_ {G H : Hp} {p q : Addr} {n : Nat} {o : HO} (a : Ps K G H p n) (hq : H q = none) : Step (some p) G H (upd G q o) (upd H q o) ∧ Ps K (upd G q o) (upd H q o) p n := by
  have s : Step none G H (upd G q o) (upd H q o) := (Step.refl a.gh).new_ hq
  exact ⟨s.some_, a.stepN s⟩
theorem Ps.mono {G H : Hp} {p : Addr} {n m : Nat} (a : Ps K G H p n) (h : n ≤ m) : Ps K G H p m := ⟨a.gh, a.out, a.pen.mono h⟩
/-! ### terms -/
inductive So where
  | row | column | place | zero | func | rule
  deriving DecidableEq
def So.s : So → Str
  | .row => "row"
  | .column => "column"
  | .place => "place"
  | .zero => "zero"
  | .func => "function"
  | .rule => "rule"
inductive Mt where
  | mk (so : So) (w : List Nat) (ts : List Mt) (b : Bool)
def tx (so : So) (w : List Nat) (xs : List (List Nat)) (b : Bool) : List Nat := match so with
  | .row => if b = true then w ++ [39] else w
  | .column => xs.headD [] ++ [46] ++ w
  | .place => [64] ++ xs.headD []
  | .zero => [48]
  | .func => w ++ [40] ++ TL.joinL [44, 32] xs ++ [41]
  | .rule => w ++ [91] ++ TL.joinL [44, 32] xs ++ [93]
def Mt.txt : Mt → List Nat
  | .mk so w ts b => tx so w (ts.map Mt.txt) b
theorem Mt.txt_mk (so : So) (w : List Nat) (ts : List Mt) (b : Bool) : (Mt.mk so w ts b).txt = tx so w (ts.map Mt.txt) b := by rw [Mt.txt]
def Mt.dep : Mt → Nat
  | .mk _ _ ts _ => 1 + (ts.map Mt.dep).foldr max 0
theorem Mt.dep_mk (so : So) (w : List Nat) (ts : List Mt) (b : Bool) : (Mt.mk so w ts b).dep = 1 + (ts.map Mt.dep).foldr max 0 := by rw [Mt.dep]
theorem fold_max {l : List Nat} {x : Nat} (h : x ∈ l) : x ≤ l.foldr max 0 := by
  induction l with
  | nil => cases h
  | cons y r ih =>
    rw [List.foldr_cons]
    rcases List.mem_cons.mp h with h | h
    · rw [h]; exact Nat.le_max_left ..
    · exact Nat.le_trans (ih h) (Nat.le_max_right ..)
theorem Mt.dep_part {so : So} {w : List Nat} {ts : List Mt} {b : Bool} {t : Mt} (h : t ∈ ts) : t.dep < (Mt.mk so w ts b).dep := by
  rw [Mt.dep_mk]
  have := fold_max (List.mem_map_of_mem (f := Mt.dep) h)
  omega
/-- the law's own tuples of a term, all below what never changes -/
inductive MAt (G : Hp) : V → Mt → Prop where
  | mk {a p : Addr} {so : So} {w : List Nat} {vs : List V} {ts : List Mt} {b : Bool} (ha : G a = some (.tup [.str so.s, .str (S w), .ref p, .bl b])) (hp : G p = some (.tup vs)) (hl : vs.length = ts.length)
      (h : ∀ (i : Nat) (v : V) (t : Mt), vs[i]? = some v → ts[i]? = some t → MAt G v t) : MAt G (.ref a) (.mk so w ts b)
theorem MAt.same {G G' : Hp} (s : Same G G') : ∀ {v : V} {t : Mt}, MAt G v t → MAt G' v t := fun h => by
  induction h with
  | mk ha hp hl _ ih => exact .mk (s _ _ ha) (s _ _ hp) hl ih
/-- the program's term objects -/
def tf (so : So) (w : List Nat) (l : Addr) (b : Bool) (t : List Nat) (d : Nat) : List (Str × V) :=
  putF "_depth" (.int (d : Nat)) (putF "text" (.str (S t)) (putF "marked" (.bl b) (putF "parts" (.ref l) (putF "name" (.str (S w)) (putF "kind" (.str so.s) [])))))
inductive TAt (C : Addr) (G : Hp) : V → Mt → Prop where
  | mk {a dx l : Addr} {so : So} {w : List Nat} {vs : List V} {ts : List Mt} {b : Bool} (ha : G a = some (.ins C dx (tf so w l b (tx so w (ts.map Mt.txt) b) (1 + (ts.map Mt.dep).foldr max 0)))) (hp : G l = some (.lst vs)) (hl : vs.length = ts.length)
      (h : ∀ (i : Nat) (v : V) (t : Mt), vs[i]? = some v → ts[i]? = some t → TAt C G v t) : TAt C G (.ref a) (.mk so w ts b)
theorem TAt.same {C : Addr} {G G' : Hp} (s : Same G G') : ∀ {v : V} {t : Mt}, TAt C G v t → TAt C G' v t := fun h => by
  induction h with
  | mk ha hp hl _ ih => exact .mk (s _ _ ha) (s _ _ hp) hl ih
section
variable {so : So} {w : List Nat} {l : Addr} {b : Bool} {t : List Nat} {d : Nat}
theorem tf_depth : (tf so w l b t d).lookup ("_depth" : Str) = some (.int (d : Nat)) := by unfold tf; rw [lookup_putF, if_pos rfl]
theorem tf_text : (tf so w l b t d).lookup ("text" : Str) = some (.str (S t)) := by unfold tf; rw [lookup_putF, if_neg (by decide +kernel), lookup_putF, if_pos rfl]
theorem tf_marked : (tf so w l b t d).lookup ("marked" : Str) = some (.bl b) := by unfold tf; rw [lookup_putF, if_neg (by decide +kernel), lookup_putF, if_neg (by decide +kernel), lookup_putF, if_pos rfl]
theorem tf_parts : (tf so w l b t d).lookup ("parts" : Str) = some (.ref l) := by unfold tf; rw [lookup_putF, if_neg (by decide +kernel), lookup_putF, if_neg (by decide +kernel), lookup_putF, if_neg (by decide +kernel), lookup_putF, if_pos rfl]
theorem tf_name : (tf so w l b t d).lookup ("name" : Str) = some (.str (S w)) := by unfold tf; rw [lookup_putF, if_neg (by decide +kernel), lookup_putF, if_neg (by decide +kernel), lookup_putF, if_neg (by decide +kernel), lookup_putF, if_neg (by decide +kernel), lookup_putF, if_pos rfl]
theorem tf_kind : (tf so w l b t d).lookup ("kind" : Str) = some (.str so.s) := by unfold tf; rw [lookup_putF, if_neg (by decide +kernel), lookup_putF, if_neg (by decide +kernel), lookup_putF, if_neg (by decide +kernel), lookup_putF, if_neg (by decide +kernel), lookup_putF, if_neg (by decide +kernel), lookup_putF, if_pos rfl]
end
theorem Same.off {G H : Hp} {q : Addr} {o : HO} (s : Same G H) (h : G q = none) : Same G (upd H q o) := fun b u e => by rw [upd_ne (ne_of_none e h)]; exact s b u e
theorem max_is {l : List Nat} {m : Int} (h0 : l.map (fun (n : Nat) => (n : Int)) = [] → m = 0) (h1 : l.map (fun (n : Nat) => (n : Int)) ≠ [] → m ∈ l.map (fun (n : Nat) => (n : Int)) ∧ ∀ k ∈ l.map (fun (n : Nat) => (n : Int)), k ≤ m) : m = ((l.foldr max 0 : Nat) : Int) := by
  cases l with
  | nil => exact h0 rfl
  | cons x r =>
    obtain ⟨hm, ha⟩ := h1 (fun z => by cases z)
    obtain ⟨n, hn, rfl⟩ := List.mem_map.mp hm
    have up := fold_max hn
    have dn : (x :: r).foldr max 0 ≤ n := by
      have all : ∀ y ∈ x :: r, y ≤ n := fun y hy => by
        have := ha _ (List.mem_map_of_mem (f := fun (n : Nat) => (n : Int)) hy)
        omega
      have gen : ∀ q : List Nat, (∀ y ∈ q, y ≤ n) → q.foldr max 0 ≤ n := fun q => by
        induction q with
        | nil => intro _; exact Nat.zero_le _
        | cons z s ih =>
          intro h
          rw [List.foldr_cons]
          exact Nat.max_le.mpr ⟨h z List.mem_cons_self, ih fun y hy => h y (List.mem_cons_of_mem _ hy)⟩
      exact gen _ all
    exact congrArg (fun (n : Nat) => (n : Int)) (Nat.le_antisymm up dn)
end Bs
namespace Bs
open PySem PySem.Spec PyProof.Rows L2 SX
/-! ### names, lies, tables: what they are, their rows, and that a row tells its table -/
def W29 : List Str := ["table", "key", "dealt", "anyhow", "copied", "zero", "scan", "where", "compute", "equal", "keep", "distinct", "group", "with", "count", "sum", "sort", "own", "split", "broadcast", "gather", "merge", "join", "semi", "anti", "union", "answer", "in", "self"]
def WD : List (List Nat) := W29.map fun x => x.cps.toList
def sgB (c : Nat) : Bool := decide (97 ≤ c ∧ c ≤ 122) || (decide (48 ≤ c ∧ c ≤ 57) || decide (c = 95))
structure Nm (w : List Nat) : Prop where
  len : w.length ≤ 8
  hd : ∃ c r, w = c :: r ∧ 97 ≤ c ∧ c ≤ 122
  sg : ∀ c ∈ w, sgB c = true
  no : w ∉ WD
def nmB (w : List Nat) : Bool := decide (w.length ≤ 8) && ((match w with | c :: _ => decide (97 ≤ c ∧ c ≤ 122) | [] => false) && (w.all sgB && decide (w ∉ WD)))
theorem nm_of {w : List Nat} (h : nmB w = true) : Nm w := by
  obtain ⟨h1, h⟩ := Bool.and_eq_true_iff.mp h
  obtain ⟨h2, h⟩ := Bool.and_eq_true_iff.mp h
  obtain ⟨h3, h4⟩ := Bool.and_eq_true_iff.mp h
  refine ⟨of_decide_eq_true h1, ?_, List.all_eq_true.mp h3, of_decide_eq_true h4⟩
  cases w with
  | nil => cases h2
  | cons c r => exact ⟨c, r, rfl, (of_decide_eq_true h2).1, (of_decide_eq_true h2).2⟩
theorem Nm.pos {w : List Nat} (h : Nm w) : 0 < w.length := by
  obtain ⟨c, r, rfl, _⟩ := h.hd
  simp
theorem Nm.noW {w : List Nat} (h : Nm w) : S w ∉ W29 := fun z => h.no (List.mem_map.mpr ⟨S w, z, by simp [S]⟩)
theorem sg_lt {c : Nat} (h : sgB c = true) : c < 128 ∧ c ≠ 32 := by
  unfold sgB at h
  simp only [Bool.or_eq_true, decide_eq_true_eq] at h
  omega
inductive Lie where
  | copied | anyhow | zero
  | dealt (r : List Nat) (ds : List (List Nat))
deriving DecidableEq
def Lie.hd : Lie → List Nat
  | .copied => [99, 111, 112, 105, 101, 100]
  | .anyhow => [97, 110, 121, 104, 111, 119]
  | .zero => [122, 101, 114, 111]
  | .dealt _ _ => [100, 101, 97, 108, 116]
def Lie.tl : Lie → List (List Nat)
  | .dealt r ds => r :: ds
  | _ => []
structure Br where
  n : List Nat
  cs : List (List Nat)
  ky : List (List Nat)
  li : Lie
deriving DecidableEq
structure Sub (ks cs : List (List Nat)) : Prop where
  mem : ∀ k ∈ ks, k ∈ cs
  nd : ks.Nodup
structure OkL (cs : List (List Nat)) (l : Lie) : Prop where
  d : ∀ r ds, l = .dealt r ds → Nm r ∧ Sub ds cs ∧ 1 ≤ ds.length ∧ ds.length ≤ 3
structure OkC (cs : List (List Nat)) : Prop where
  nm : ∀ c ∈ cs, Nm c
  nd : cs.Nodup
  lo : 1 ≤ cs.length
  hi : cs.length ≤ 8
structure Ok (b : Br) : Prop where
  n : Nm b.n
  c : OkC b.cs
  k : Sub b.ky b.cs
  l : OkL b.cs b.li
theorem nodup_len {α : Type} [DecidableEq α] : ∀ {ks cs : List α}, ks.Nodup → (∀ k ∈ ks, k ∈ cs) → ks.length ≤ cs.length
  | [], _, _, _ => Nat.zero_le _
  | k :: r, cs, nd, h => by
    have hk := h k List.mem_cons_self
    have ih := nodup_len (ks := r) (cs := cs.erase k) (List.nodup_cons.mp nd).2 fun z hz => (List.mem_erase_of_ne (fun e : z = k => (List.nodup_cons.mp nd).1 (by rw [← e]; exact hz))).mpr (h z (List.mem_cons_of_mem _ hz))
    rw [List.length_erase_of_mem hk] at ih
    have := List.length_pos_of_mem hk
    simp only [List.length_cons]
    omega
theorem Sub.le {ks cs : List (List Nat)} (h : Sub ks cs) : ks.length ≤ cs.length := nodup_len h.nd h.mem
def kyW : List Nat := [107, 101, 121]
def tbW : List Nat := [116, 97, 98, 108, 101]
def rest (ky : List (List Nat)) (l : Lie) : List (List Nat) := (if ky = [] then [] else kyW :: ky) ++ l.hd :: l.tl
def words (b : Br) : List (List Nat) := tbW :: b.n :: (b.cs ++ rest b.ky b.li)
def txtB (b : Br) : List Nat := TL.joinL [32] (words b)
theorem split_at {x : Nat} : ∀ {p q a b : List Nat}, x ∉ p → x ∉ q → p ++ x :: a = q ++ x :: b → p = q ∧ a = b
  | [], [], a, b, _, _, h => ⟨rfl, (List.cons.inj h).2⟩
  | [], c :: q, a, b, _, hq, h => absurd ((List.cons.inj h).1 ▸ List.mem_cons_self) hq
  | c :: p, [], a, b, hp, _, h => absurd ((List.cons.inj h).1.symm ▸ List.mem_cons_self) hp
  | c :: p, d :: q, a, b, hp, hq, h => by
    obtain ⟨h1, h2⟩ := List.cons.inj h
    obtain ⟨h3, h4⟩ := split_at (fun z => hp (List.mem_cons_of_mem _ z)) (fun z => hq (List.mem_cons_of_mem _ z)) h2
    exact ⟨by rw [h1, h3], h4⟩
theorem join_inj : ∀ {xs ys : List (List Nat)}, xs ≠ [] → ys ≠ [] → (∀ w ∈ xs, 32 ∉ w) → (∀ w ∈ ys, 32 ∉ w) → TL.joinL [32] xs = TL.joinL [32] ys → xs = ys
  | [], _, h, _, _, _, _ => absurd rfl h
  | _, [], _, h, _, _, _ => absurd rfl h
  | [p], [q], _, _, _, _, h => by rw [show p = q from h]
  | [p], q :: q2 :: r, _, _, hp, _, h => absurd (show 32 ∈ p by
      have h : p = q ++ ([32] ++ TL.joinL [32] (q2 :: r)) := h
      rw [h]; simp) (hp p List.mem_cons_self)
  | p :: p2 :: r, [q], _, _, _, hq, h => absurd (show 32 ∈ q by
      have h : p ++ ([32] ++ TL.joinL [32] (p2 :: r)) = q := h
      rw [← h]; simp) (hq q List.mem_cons_self)
  | p :: p2 :: r, q :: q2 :: t, _, _, hp, hq, h => by
    have h : p ++ 32 :: TL.joinL [32] (p2 :: r) = q ++ 32 :: TL.joinL [32] (q2 :: t) := h
    obtain ⟨h1, h2⟩ := split_at (hp p List.mem_cons_self) (hq q List.mem_cons_self) h
    rw [h1, join_inj (xs := p2 :: r) (ys := q2 :: t) (by simp) (by simp) (fun w hw => hp w (List.mem_cons_of_mem _ hw)) (fun w hw => hq w (List.mem_cons_of_mem _ hw)) h2]
theorem part_at {P : List Nat → Prop} {x y : List Nat} : ∀ {p q a b : List (List Nat)}, (∀ w ∈ p, P w) → (∀ w ∈ q, P w) → ¬ P x → ¬ P y → p ++ x :: a = q ++ y :: b → p = q ∧ x :: a = y :: b
  | [], [], _, _, _, _, _, _, h => ⟨rfl, h⟩
  | [], c :: q, a, b, _, hq, hx, _, h => absurd (hq c List.mem_cons_self) ((List.cons.inj h).1 ▸ hx)
  | c :: p, [], a, b, hp, _, _, hy, h => absurd (hp c List.mem_cons_self) ((List.cons.inj h).1 ▸ hy)
  | c :: p, d :: q, a, b, hp, hq, hx, hy, h => by
    obtain ⟨h1, h2⟩ := List.cons.inj h
    obtain ⟨h3, h4⟩ := part_at (fun w hw => hp w (List.mem_cons_of_mem _ hw)) (fun w hw => hq w (List.mem_cons_of_mem _ hw)) hx hy h2
    exact ⟨by rw [h1, h3], h4⟩
theorem hd_in (l : Lie) : l.hd ∈ WD := match l with
  | .copied => by decide +kernel
  | .anyhow => by decide +kernel
  | .zero => by decide +kernel
  | .dealt _ _ => show ([100, 101, 97, 108, 116] : List Nat) ∈ WD by decide +kernel
theorem hd_no (l : Lie) : ¬ Nm l.hd := fun h => h.no (hd_in l)
theorem ky_no : ¬ Nm kyW := fun h => h.no (by decide +kernel)
theorem hd_ky (l : Lie) : l.hd ≠ kyW := match l with
  | .copied => by decide
  | .anyhow => by decide
  | .zero => by decide
  | .dealt _ _ => show ([100, 101, 97, 108, 116] : List Nat) ≠ kyW by decide
theorem hd_sp (l : Lie) : 32 ∉ l.hd := match l with
  | .copied => by decide
  | .anyhow => by decide
  | .zero => by decide
  | .dealt _ _ => show 32 ∉ ([100, 101, 97, 108, 116] : List Nat) by decide
theorem Nm.sp {w : List Nat} (h : Nm w) : 32 ∉ w := fun z => (sg_lt (h.sg 32 z)).2 rfl
theorem OkL.nm {cs : List (List Nat)} {l : Lie} (h : OkL cs l) (hc : ∀ c ∈ cs, Nm c) : ∀ w ∈ l.tl, Nm w := fun w hw => by
  cases l with
  | dealt r ds =>
    obtain ⟨h1, h2, _⟩ := h.d r ds rfl
    rcases List.mem_cons.mp hw with rfl | hw
    · exact h1
    · exact hc w (h2.mem w hw)
  | _ => cases hw
theorem words_sp {b : Br} (h : Ok b) : ∀ w ∈ words b, 32 ∉ w := fun w hw => by
  have hl := h.l.nm h.c.nm
  unfold words rest at hw
  simp only [List.mem_cons, List.mem_append] at hw
  rcases hw with rfl | rfl | hw | hw | rfl | hw
  · decide
  · exact h.n.sp
  · exact (h.c.nm w hw).sp
  · split at hw
    · cases hw
    · rcases List.mem_cons.mp hw with rfl | hw
      · decide
      · exact (h.c.nm w (h.k.mem w hw)).sp
  · exact hd_sp _
  · exact (hl w hw).sp
theorem lie_inj : ∀ {l m : Lie}, l.hd :: l.tl = m.hd :: m.tl → l = m
  | .copied, .copied, _ => rfl
  | .anyhow, .anyhow, _ => rfl
  | .zero, .zero, _ => rfl
  | .dealt r ds, .dealt r2 ds2, h => by
    obtain ⟨h3, h4⟩ := List.cons.inj (show r :: ds = r2 :: ds2 from (List.cons.inj h).2)
    rw [h3, h4]
  | .copied, .anyhow, h => absurd (List.cons.inj h).1 (by decide)
  | .copied, .zero, h => absurd (List.cons.inj h).1 (by decide)
  | .copied, .dealt _ _, h => absurd (show ([99, 111, 112, 105, 101, 100] : List Nat) = [100, 101, 97, 108, 116] from (List.cons.inj h).1) (by decide)
  | .anyhow, .copied, h => absurd (List.cons.inj h).1 (by decide)
  | .anyhow, .zero, h => absurd (List.cons.inj h).1 (by decide)
  | .anyhow, .dealt _ _, h => absurd (show ([97, 110, 121, 104, 111, 119] : List Nat) = [100, 101, 97, 108, 116] from (List.cons.inj h).1) (by decide)
  | .zero, .copied, h => absurd (List.cons.inj h).1 (by decide)
  | .zero, .anyhow, h => absurd (List.cons.inj h).1 (by decide)
  | .zero, .dealt _ _, h => absurd (show ([122, 101, 114, 111] : List Nat) = [100, 101, 97, 108, 116] from (List.cons.inj h).1) (by decide)
  | .dealt _ _, .copied, h => absurd (show ([100, 101, 97, 108, 116] : List Nat) = [99, 111, 112, 105, 101, 100] from (List.cons.inj h).1) (by decide)
  | .dealt _ _, .anyhow, h => absurd (show ([100, 101, 97, 108, 116] : List Nat) = [97, 110, 121, 104, 111, 119] from (List.cons.inj h).1) (by decide)
  | .dealt _ _, .zero, h => absurd (show ([100, 101, 97, 108, 116] : List Nat) = [122, 101, 114, 111] from (List.cons.inj h).1) (by decide)
theorem rest_cons (ky : List (List Nat)) (l : Lie) : ∃ x t, rest ky l = x :: t ∧ ¬ Nm x := by
  unfold rest
  split
  · exact ⟨_, _, rfl, hd_no l⟩
  · exact ⟨_, _, rfl, ky_no⟩
theorem txt_inj {a b : Br} (ha : Ok a) (hb : Ok b) (h : txtB a = txtB b) : a = b := by
  have e := join_inj (by simp [words]) (by simp [words]) (words_sp ha) (words_sp hb) h
  unfold words at e
  obtain ⟨_, e⟩ := List.cons.inj e
  obtain ⟨e1, e⟩ := List.cons.inj e
  obtain ⟨x, t, ex, nx⟩ := rest_cons a.ky a.li
  obtain ⟨y, u, ey, ny⟩ := rest_cons b.ky b.li
  rw [ex, ey] at e
  obtain ⟨e2, e3⟩ := part_at (P := Nm) ha.c.nm hb.c.nm nx ny e
  rw [← ex, ← ey] at e3
  have e4 : a.ky = b.ky ∧ a.li = b.li := by
    unfold rest at e3
    by_cases ca : a.ky = [] <;> by_cases cb : b.ky = []
    · rw [if_pos ca, if_pos cb] at e3
      exact ⟨by rw [ca, cb], lie_inj e3⟩
    · rw [if_pos ca, if_neg cb] at e3
      exact absurd (List.cons.inj e3).1 (hd_ky _)
    · rw [if_neg ca, if_pos cb] at e3
      exact absurd (List.cons.inj e3).1.symm (hd_ky _)
    · rw [if_neg ca, if_neg cb] at e3
      obtain ⟨_, e5⟩ := List.cons.inj e3
      obtain ⟨e6, e7⟩ := part_at (P := Nm) (fun w hw => ha.c.nm w (ha.k.mem w hw)) (fun w hw => hb.c.nm w (hb.k.mem w hw)) (hd_no _) (hd_no _) e5
      exact ⟨e6, lie_inj e7⟩
  cases a
  cases b
  simp only at e1 e2 e4
  rw [e1, e2, e4.1, e4.2]
/-! ### as data -/
def strsD (xs : List (List Nat)) : List PyData := xs.map fun w => PyData.str (S w)
def lieD : Lie → PyData
  | .dealt r ds => .tuple [.str (S [100, 101, 97, 108, 116]), .str (S r), .tuple (strsD ds)]
  | l => .tuple [.str (S l.hd)]
def brD (b : Br) : PyData := .list [.str (S b.n), .list (strsD b.cs), .list (strsD b.ky), lieD b.li]
theorem strs_eqv : ∀ xs ys : List (List Nat), PyData.eqvAll (strsD xs) (strsD ys) = decide (xs = ys)
  | [], [] => by simp [strsD, PyData.eqvAll]
  | [], _ :: _ => by simp [strsD, PyData.eqvAll]
  | _ :: _, [] => by simp [strsD, PyData.eqvAll]
  | x :: xs, y :: ys => by
    have ih := strs_eqv xs ys
    unfold strsD at ih ⊢
    simp only [List.map_cons, PyData.eqvAll, PyData.eqv, ih]
    by_cases c : x = y
    · subst c; simp
    · have : (S x == S y) = false := beq_eq_false_iff_ne.mpr fun z => c (S_inj z)
      rw [this]; simp [c]
theorem str_eqv (x y : List Nat) : (S x == S y) = decide (x = y) := by
  by_cases c : x = y
  · subst c; simp
  · rw [beq_eq_false_iff_ne.mpr fun z => c (S_inj z), decide_eq_false c]
theorem lie_eqv (l m : Lie) : (lieD l).eqv (lieD m) = decide (l = m) := by
  cases l <;> cases m <;> simp only [lieD, Lie.hd, PyData.eqv, PyData.eqvAll, strs_eqv, str_eqv, List.map_nil] <;> simp
theorem br_eqv (a b : Br) : (brD a).eqv (brD b) = decide (a = b) := by
  cases a; cases b
  simp only [brD, PyData.eqv, PyData.eqvAll, strs_eqv, str_eqv, lie_eqv, Br.mk.injEq]
  simp [Bool.and_assoc, Bool.decide_and]
end Bs
namespace Bs
open PySem PySem.Spec PyProof.Rows L2 SX
variable {P : Program} {w : World} {K : PySem.W.Frag} {mg : Str → Option Value} {base : Heap}
theorem sqL_same {G H : Hp} {a : Addr} {xs : List V} (h : SqL K G a xs) (s : Same G H) : SqL K H a xs := by
  rcases h with (h | ⟨o, h⟩) | h
  · exact .inl (.inl (s _ _ h))
  · exact .inl (.inr ⟨o, s _ _ h⟩)
  · exact .inr h
theorem sqT_same {G H : Hp} {a : Addr} {xs : List V} (h : SqT K G a xs) (s : Same G H) : SqT K H a xs := by
  rcases h with (h | ⟨o, h⟩) | h
  · exact .inl (.inl (s _ _ h))
  · exact .inl (.inr ⟨o, s _ _ h⟩)
  · exact .inr h
def Sq (K : PySem.W.Frag) (H : Hp) (a : Addr) (xs : List V) : Prop := SqL K H a xs ∨ SqT K H a xs
theorem Sq.same {G H : Hp} {a : Addr} {xs : List V} (h : Sq K G a xs) (s : Same G H) : Sq K H a xs := h.imp (fun h => sqL_same h s) fun h => sqT_same h s
abbrev sV (xs : List (List Nat)) : List V := (xs.map S).map V.str
theorem sV_len (xs : List (List Nat)) : (sV xs).length = xs.length := by rw [List.length_map, List.length_map]
theorem sV_flat (xs : List (List Nat)) : (sV xs).all flatV = true := by
  rw [List.all_eq_true]
  intro v hv
  obtain ⟨x, _, rfl⟩ := List.mem_map.mp hv
  rfl
theorem S_nodup {xs : List (List Nat)} (h : xs.Nodup) : (xs.map S).Nodup := by
  induction xs with
  | nil => exact List.nodup_nil
  | cons x r ih =>
    obtain ⟨h1, h2⟩ := List.nodup_cons.mp h
    refine List.nodup_cons.mpr ⟨fun z => ?_, ih h2⟩
    obtain ⟨y, hy, e⟩ := List.mem_map.mp z
    exact h1 (S_inj e ▸ hy)
theorem rep_app (b : Bool) (i : Nat) : (List.replicate i b).map V.bl ++ [V.bl b] = (List.replicate (i + 1) b).map V.bl := by
  rw [List.replicate_succ', List.map_append]
  rfl
theorem all_rep (i : Nat) : (List.replicate i true).all id = true := by
  rw [List.all_eq_true]
  intro x hx
  rw [(List.mem_replicate.mp hx).2]
  rfl
theorem inV_str (x : Str) (ys : List Str) : inV (.str x) (ys.map V.str) = decide (x ∈ ys) := by
  unfold inV
  induction ys with
  | nil => rfl
  | cons y r ih =>
    rw [List.map_cons, List.any_cons, ih]
    have e : eqV (.str y) (.str x) = decide (x = y) := by
      unfold eqV
      by_cases h : x = y
      · subst h; simp
      · have h' : ¬ y = x := fun q => h q.symm
        simp [h, h']
    rw [e]
    simp
theorem inV_sV (x : List Nat) (xs : List (List Nat)) : inV (.str (S x)) (sV xs) = decide (x ∈ xs) := by
  rw [inV_str, decide_eq_decide, List.mem_map]
  exact ⟨fun ⟨y, hy, e⟩ => S_inj e ▸ hy, fun h => ⟨x, h, rfl⟩⟩
def LieAt (K : PySem.W.Frag) (G : Hp) (a : Addr) : Lie → Prop
  | .dealt r ds => ∃ d, SqT K G a [.str (S [100, 101, 97, 108, 116]), .str (S r), .ref d] ∧ SqT K G d (sV ds)
  | l => SqT K G a [.str (S l.hd)]
theorem LieAt.same {G H : Hp} {a : Addr} {l : Lie} (h : LieAt K G a l) (s : Same G H) : LieAt K H a l := by
  cases l with
  | dealt r ds =>
    obtain ⟨d, h1, h2⟩ := h
    exact ⟨d, sqT_same h1 s, sqT_same h2 s⟩
  | _ => exact sqT_same h s
theorem dp_sV {H : Hp} : ∀ xs : List (List Nat), DpAll K H (sV xs) (strsD xs)
  | [] => .nil
  | x :: r => .cons (.str _) (dp_sV r)
theorem LieAt.dp {H : Hp} {a : Addr} {l : Lie} (h : LieAt K H a l) : Dp K H (.ref a) (lieD l) := by
  cases l with
  | dealt r ds =>
    obtain ⟨d, h1, h2⟩ := h
    exact .tup h1 (.cons (.str _) (.cons (.str _) (.cons (.tup h2 (dp_sV ds)) .nil)))
  | _ => exact .tup h (.cons (.str _) .nil)
theorem LieAt.hd {G : Hp} {a : Addr} {l : Lie} (h : LieAt K G a l) : ∃ r, SqT K G a (.str (S l.hd) :: r) := by
  cases l with
  | dealt r ds =>
    obtain ⟨d, h1, _⟩ := h
    exact ⟨_, h1⟩
  | _ => exact ⟨_, h⟩
def spNameT : Sp := fun vs H Q _ => ∃ (G : Hp) (w : List Nat), vs = [.str (S w)] ∧ Nm w ∧ Same G H ∧ ∀ H' : Hp, Step none G H G H' → Q (.bl true) H'
def spTwice (K : PySem.W.Frag) : Sp := fun vs H Q _ => ∃ (a : Addr) (xs : List (List Nat)), vs = [.ref a] ∧ Sq K H a (sV xs) ∧ xs.Nodup ∧ xs.length ≤ 100 ∧ Q (.bl false) H
def spUnlike (K : PySem.W.Frag) : Sp := fun vs H Q _ => ∃ (G : Hp) (a c : Addr) (ks cs : List (List Nat)), vs = [.ref a, .ref c] ∧ Same G H ∧ Sq K G a (sV ks) ∧ SqL K G c (sV cs) ∧ Sub ks cs ∧ ks.length ≤ 100 ∧ ∀ H' : Hp, Step none G H G H' → Q (.bl true) H'
def spDealt (K : PySem.W.Frag) : Sp := fun vs H Q _ => ∃ (G : Hp) (a c : Addr) (r : List Nat) (ds cs : List (List Nat)), vs = [.ref a, .ref c] ∧ Same G H ∧ LieAt K G a (.dealt r ds) ∧ SqL K G c (sV cs) ∧ OkL cs (.dealt r ds) ∧ ∀ H' : Hp, Step none G H G H' → Q (.bl true) H'
/-! lc over a text -/
theorem lc_str {x : Str} {g : TG} {tt : TT} {te : TE} {vs : List Nat} {σ : L2.St} {H1 : Hp} {D : Addr} {Qd : Hp → Prop} (Pv : Nat → Hp → Prop) (h0 : Pv 0 (upd H1 D (.lst [])))
    (hs : ∀ i c H, x.cps[i]? = some c → Pv i H → g (.str ⟨#[c]⟩) (wipe σ vs) H fun σ2 H2 => wipe σ2 vs = wipe σ vs ∧ tt σ2 H2 fun b H3 =>
      if b = true then te σ2 H3 fun y H4 => ∃ acc, H4 D = some (.lst acc) ∧ acc.length < sizeLine ∧ Pv (i + 1) (upd H4 D (.lst (acc ++ [y]))) else Pv (i + 1) H3) (hd : ∀ H, Pv x.cps.size H → Qd H) :
    ∃ W : Nat → Nat → Hp → Prop, (∃ m, W 0 m (upd H1 D (.lst []))) ∧ ∀ i m H, W i m H →
      ((Its x).stop i H ∧ Qd H) ∨ ((Its x).go i H ∧ ∃ Nx : Hp → Prop, (∀ H', Nx H' → ∃ m', m' < m ∧ W (i + 1) m' H') ∧ ∀ y H', (Its x).yld i H y H' → g y (wipe σ vs) H' fun σ2 H2 => wipe σ2 vs = wipe σ vs ∧ tt σ2 H2 fun b H3 =>
        if b = true then te σ2 H3 fun y H4 => ∃ acc, H4 D = some (.lst acc) ∧ acc.length < sizeLine ∧ Nx (upd H4 D (.lst (acc ++ [y]))) else Nx H3) := by
  refine ⟨fun i m H => Pv i H ∧ i + m = x.cps.size, ⟨x.cps.size, h0, Nat.zero_add _⟩, fun i m H ⟨hp, em⟩ => ?_⟩
  cases m with
  | zero =>
    have e : i = x.cps.size := em
    subst e
    exact .inl ⟨Nat.le_refl _, hd H hp⟩
  | succ m =>
    refine .inr ⟨by show i < x.cps.size; omega, Pv (i + 1), fun H' h' => ⟨m, Nat.lt_succ_self m, h', by omega⟩, ?_⟩
    rintro y H' ⟨rfl, c, hc, rfl⟩
    exact hs i c H' hc hp
def CH : Str := "abcdefghijklmnopqrstuvwxyz0123456789_"
theorem CH_c : CH.cps.toList = List.range' 97 26 ++ (List.range' 48 10 ++ [95]) := by decide +kernel
theorem LT_c : ("abcdefghijklmnopqrstuvwxyz" : Str).cps.toList = List.range' 97 26 := by decide +kernel
theorem sg_in {c : Nat} (h : sgB c = true) : c ∈ CH.cps.toList := by
  rw [CH_c, List.mem_append, List.mem_append, List.mem_range'_1, List.mem_range'_1, List.mem_singleton]
  unfold sgB at h
  simp only [Bool.or_eq_true, decide_eq_true_eq] at h
  omega
theorem lt_in {c : Nat} (h : 97 ≤ c ∧ c ≤ 122) : c ∈ ("abcdefghijklmnopqrstuvwxyz" : Str).cps.toList := by
  rw [LT_c, List.mem_range'_1]
  omega
end Bs
namespace Pf
open PySem PySem.Spec PyProof.Rows L2 Bs SX
variable {P : Program} {w : World} {K : PySem.W.Frag} {mg : Str → Option Value} {base : Heap}
abbrev N_is_name : List Str := ["word", "sign"]
theorem sc_is_name : FnScope N_is_name ["word"] (defScope s_is_name) := ⟨rfl, rfl, rfl, by decide +kernel, rfl, by decide +kernel, by decide +kernel⟩
theorem c_is_name (T : Tx K mg) : C8.Cal P w K mg base 1 "is_name" spNameT [] := by
  obtain ⟨fd, F⟩ := f_is_name T
  have pe_g_WORDS : ∀ {X : Cx} {pos : Pos}, X.mg = mg → Gl X "WORDS" → PE X (.Name "WORDS" pos) (tC (.ref (He.ga K "WORDS"))) := fun h1 h2 => C8.pe_gc h2 ⟨_, by rw [h1]; exact g_WORDS T, rfl⟩
  have pe_g_MOST_CHARACTERS : ∀ {X : Cx} {pos : Pos}, X.mg = mg → Gl X "MOST_CHARACTERS" → PE X (.Name "MOST_CHARACTERS" pos) (tC (.int 8)) := fun h1 h2 => by
    obtain ⟨t, e⟩ := ci_MOST_CHARACTERS T
    exact pe_glob h2 (by rw [h1]; exact e) ⟨t, rfl⟩
  have pe_g_LETTERS : ∀ {X : Cx} {pos : Pos}, X.mg = mg → Gl X "LETTERS" → PE X (.Name "LETTERS" pos) (tC (.str "abcdefghijklmnopqrstuvwxyz")) := fun h1 h2 => by
    obtain ⟨t, e⟩ := cs_LETTERS T
    exact pe_glob h2 (by rw [h1]; exact e) ⟨t, rfl⟩
  have pe_g_CHARACTERS : ∀ {X : Cx} {pos : Pos}, X.mg = mg → Gl X "CHARACTERS" → PE X (.Name "CHARACTERS" pos) (tC (.str CH)) := fun h1 h2 => by
    obtain ⟨t, e⟩ := cs_CHARACTERS T
    exact pe_glob h2 (by rw [h1]; exact e) ⟨t, rfl⟩
  refine mkCal F (g_is_name T) (F.bindsN fun _ _ _ _ _ _ us hl => match us, hl with | [_], _ => rfl) .nil sc_is_name (fun vs H Q E h => ?_) (fun cdv A outer s H vs Q E hr h => ?_)
  · obtain ⟨G, w, rfl, _⟩ := h
    rfl
  obtain ⟨G, w, rfl, hn, hG, q⟩ := h
  have sl : sizeLine = 16777216 := rfl
  have hl8 := hn.len
  have hl1 := hn.pos
  have hlen : (S w).length = w.length := S_len w
  refine ⟨_, (pss_cons (ps_if (PW.pt (pw_or (pt_not (pt_val (pe_callB (call_isiK' (K := K) rfl) (by rfl) (z_isinstance T) boot_isinstance (pa_cons (pv 0) (pa_cons (pe_bltn (v := .ty "str") (by rfl) (z_str T) boot_str rfl) pa_nil))))) (pw_or1 (pt_cmpR (op_in_seqK (K := K) rfl) (pv 0) (pe_g_WORDS rfl rfl) (by rfl))))) (pss_one (ps_ret pe_bl)) pss_nil)
    (pss_cons (ps_if (PW.pt (pw_or (pt_cmpR op_eq (pe_callB call_len_str (by rfl) (z_len T) boot_len (pa_cons (pv 0) pa_nil)) pe_int (nomark _)) (pw_or1 (pt_cmpR op_gt (pe_callB call_len_str (by rfl) (z_len T) boot_len (pa_cons (pv 0) pa_nil)) (pe_g_MOST_CHARACTERS rfl rfl) (nomark _))))) (pss_one (ps_ret pe_bl)) pss_nil)
    (pss_one (ps_ret (pe_and (pe_cmpR op_in_sign (pe_ix ix_str (pv 0) pe_int (fun _ _ => rfl)) (pe_g_LETTERS rfl rfl) (by rfl)) (pe_one (pe_callB (cr_all rfl) (by rfl) (z_all T) boot_all (pa_cons (pe_lc (own := [("sign", 1)]) rfl sc_is_name.nd (pi_str (pv 0)) (blkOk_by (N := N_is_name) (sc := defScope s_is_name) (by decide +kernel)) (fun _ _ _ _ _ => (pg_name (i := 1) sc_is_name.nd rfl (Or.inl rfl))) (fun _ _ _ _ _ => pts_nil) (fun _ _ _ _ _ => (pe_cmpR op_in_sign (pv 1) (pe_g_CHARACTERS rfl rfl) (by rfl)))) pa_nil)))))))), ?_⟩
  have nw : S w ∉ W29 := hn.noW
  have eW : wordsD.map (He.Dv.v K) = W29.map V.str := by rfl
  have hW : SqT K H (He.ga K "WORDS") (W29.map V.str) := by
    rw [← eW]
    exact He.tupB_ok (ex_3 T) H
  refine ⟨_, rfl, _, _, .type "str", .type "str", true, rfl, .ty "str", .base (.str _), kit_ty (by decide +kernel), _, rfl, ?_⟩
  refine iteF ?_
  refine ⟨_, rfl, _, W29.map V.str, rfl, .inr hW, rfl, by decide +kernel, _, rfl, ?_⟩
  refine ite2 (fun c => absurd c (by
    show ¬ inV (.str (S w)) (W29.map V.str) = true
    rw [inV_str, decide_eq_true_eq]
    exact nw)) (fun _ => ?_)
  refine ⟨_, rfl, S w, rfl, by rw [hlen]; omega, rfl, _, rfl, ?_⟩
  refine ite2 (fun c => absurd (V.int.inj (of_decide_eq_true c)) (by rw [hlen]; omega)) (fun _ => ?_)
  refine ⟨_, rfl, S w, rfl, by rw [hlen]; omega, _, _, rfl, rfl, _, rfl, ?_⟩
  refine ite2 (fun c => absurd (of_decide_eq_true c) (by rw [hlen]; omega)) (fun _ => ?_)
  obtain ⟨c0, r0, ew, hlt⟩ := hn.hd
  have h0 : w[0]? = some c0 := by rw [ew]; rfl
  refine ⟨_, rfl, S w, 0, c0, rfl, rfl, by rw [hlen]; omega, atI_nat (j := 0) h0, c0, _, rfl, rfl, ?_⟩
  refine ⟨_, rfl, ?_⟩
  have e0 : decide (c0 ∈ ("abcdefghijklmnopqrstuvwxyz" : Str).cps.toList) = true := decide_eq_true (lt_in hlt)
  refine ite2 (fun _ => ?_) (fun c => absurd e0 c)
  refine ⟨_, rfl, S w, rfl, fun D hD => ?_⟩
  have gD := hG.free hD
  have e8 : (S w).cps.size = w.length := hlen
  refine lc_str (x := S w) (fun i H' => Step none G H G H' ∧ H' D = some (.lst ((List.replicate i true).map V.bl))) ⟨(Step.refl hG).loc hD gD, upd_same⟩ ?_ ?_
  · rintro i c H' hc ⟨st, hL⟩
    have hc2 : w[i]? = some c := by rw [← hc]; simp [S]
    have hm := List.mem_of_getElem? hc2
    have hil := (List.getElem?_eq_some_iff.mp hc2).1
    refine ⟨rfl, ?_⟩
    unfold tYes
    refine iteT ⟨_, rfl, c, _, rfl, rfl, _, hL, ?_, st.loc hD gD, ?_⟩
    · rw [List.length_map, List.length_replicate]
      omega
    · rw [upd_same]
      have e1 : decide (c ∈ CH.cps.toList) = true := decide_eq_true (sg_in (hn.sg c hm))
      rw [e1, rep_app]
  rintro H' ⟨st, hL⟩
  refine ⟨D, _, rfl, SqL.of hL, ?_⟩
  rw [all_rep]
  exact q H' st
abbrev N_has_twice : List Str := ["things"]
theorem sc_has_twice : FnScope N_has_twice ["things"] (defScope s_has_twice) := ⟨rfl, rfl, rfl, by decide +kernel, rfl, by decide +kernel, by decide +kernel⟩
theorem c_has_twice (T : Tx K mg) : C8.Cal P w K mg base 1 "has_twice" (spTwice K) [] := by
  obtain ⟨fd, F⟩ := f_has_twice T
  refine mkCal F (g_has_twice T) (F.bindsN fun _ _ _ _ _ _ us hl => match us, hl with | [_], _ => rfl) .nil sc_has_twice (fun vs H Q E h => ?_) (fun cdv A outer s H vs Q E hr h => ?_)
  · obtain ⟨a, xs, rfl, _⟩ := h
    rfl
  obtain ⟨a, xs, rfl, hS, nd, h100, q⟩ := h
  have sb : xs.length + 1 < scanBound := by unfold scanBound; omega
  refine ⟨_, (pss_one (ps_ret (pe_cmpR op_lt (pe_lenSetN (K := K) rfl rfl (by rfl) (z_len T) (by rfl) (z_set T) (pv 0)) (pe_callB (call_len_seqK (K := K) rfl) (by rfl) (z_len T) boot_len (pa_cons (pv 0) pa_nil)) (nomark _)))), ?_⟩
  refine ⟨_, rfl, a, xs.map S, rfl, hS, S_nodup nd, by rw [List.length_map]; exact sb, _, rfl, a, _, rfl, hS, _, _, rfl, rfl, ?_⟩
  have e : decide (((xs.map S).length : Int) < ((sV xs).length : Nat)) = false := decide_eq_false (by rw [sV_len, List.length_map]; omega)
  show Q (V.bl (decide (((xs.map S).length : Int) < ((sV xs).length : Nat)))) H
  rw [e]
  exact q
end Pf
namespace Bs
open PySem PySem.Spec PyProof.Rows L2 SX
variable {K : PySem.W.Frag}
theorem sV_at {ks : List (List Nat)} {i : Nat} {x : V} (h : (sV ks)[i]? = some x) : ∃ k, k ∈ ks ∧ x = .str (S k) ∧ i < ks.length := by
  rw [List.getElem?_map, List.getElem?_map] at h
  cases e : ks[i]? with
  | none => rw [e] at h; cases h
  | some k =>
    rw [e] at h
    exact ⟨k, List.mem_of_getElem? e, (Option.some.inj h).symm, (List.getElem?_eq_some_iff.mp e).1⟩
theorem sqT_ty {H : Hp} {a : Addr} {xs : List V} (h : SqT K H a xs) : TyX K H (.ref a) (.type "tuple") := by
  rcases h with (h | ⟨o, h⟩) | ⟨o, its, n, h1, h2, _⟩
  · exact .base (.tup h)
  · exact .fTuple h
  · exact .kTuple h1 h2
theorem lt65 {A : Around} {k : Nat} (hr : Room k A) : A.units + 65 < cLine := by have := hr.un; omega
theorem dealt_ : ("dealt" : Str) = S [100, 101, 97, 108, 116] := by decide +kernel
theorem copied_ : ("copied" : Str) = S [99, 111, 112, 105, 101, 100] := by decide +kernel
theorem anyhow_ : ("anyhow" : Str) = S [97, 110, 121, 104, 111, 119] := by decide +kernel
theorem zero_w : ("zero" : Str) = S [122, 101, 114, 111] := by decide +kernel
end Bs
namespace Pf
open PySem PySem.Spec PyProof.Rows L2 Bs SX
variable {P : Program} {w : World} {K : PySem.W.Frag} {mg : Str → Option Value} {base : Heap}
abbrev N_are_unlike : List Str := ["names", "columns", "name"]
theorem sc_are_unlike : FnScope N_are_unlike ["names", "columns"] (defScope s_are_unlike) := ⟨rfl, rfl, rfl, by decide +kernel, rfl, by decide +kernel, by decide +kernel⟩
theorem c_are_unlike (T : Tx K mg) : C8.Cal P w K mg base 2 "_are_unlike" (spUnlike K) [] := by
  obtain ⟨fd, F⟩ := f_are_unlike T
  have c_has_twice := c_has_twice (P := P) (w := w) (base := base) T
  refine mkCal F (g_are_unlike T) (F.bindsN fun _ _ _ _ _ _ us hl => match us, hl with | [_, _], _ => rfl) .nil sc_are_unlike (fun vs H Q E h => ?_) (fun cdv A outer s H vs Q E hr h => ?_)
  · obtain ⟨G, a, c, ks, cs, rfl, _⟩ := h
    rfl
  obtain ⟨G, a, c, ks, cs, rfl, hG, hk, hc, hs, h100, q⟩ := h
  have sl : sizeLine = 16777216 := rfl
  rcases hk with hk | hk
  · have hkH := sqL_same hk hG
    refine ⟨_, (pss_one (ps_ret (pe_and (pe_callB (cr_all rfl) (by rfl) (z_all T) boot_all (pa_cons (pe_lc (own := [("name", 2)]) rfl sc_are_unlike.nd (pi_listK (K := K) rfl (pv 0)) (blkOk_by (N := N_are_unlike) (sc := defScope s_are_unlike) (by decide +kernel)) (fun _ _ _ _ _ => (pg_name (i := 2) sc_are_unlike.nd rfl (Or.inl rfl))) (fun _ _ _ _ _ => pts_nil) (fun _ _ _ _ _ => (pe_cmpR (op_in_seqK (K := K) rfl) (pv 2) (pv 1) (by rfl)))) pa_nil)) (pe_one (pe_not (C8.pe_c c_has_twice hr (by first | decide | omega) rfl (pa_cons (pv 0) pa_nil))))))), ?_⟩
    refine ⟨_, rfl, a, rfl, ⟨_, hkH⟩, fun D hD => ?_⟩
    have gD := hG.free hD
    refine lc_list (K := K) (a := a) (xs := sV ks) (fun i H' => Step none G H G H' ∧ H' D = some (.lst ((List.replicate i true).map V.bl))) ⟨(Step.refl hG).loc hD gD, upd_same⟩ ?_ ?_ ?_
    · rintro i H' _ ⟨st, _⟩
      exact sqL_same hk st.gh
    · rintro i x H' hx ⟨st, hL⟩
      obtain ⟨k, mk, rfl, hi⟩ := sV_at hx
      refine ⟨rfl, ?_⟩
      unfold tYes
      refine iteT ⟨_, rfl, _, rfl, c, sV cs, rfl, .inl (sqL_same hc st.gh), rfl, sV_flat cs, _, hL, by rw [List.length_map, List.length_replicate]; omega, st.loc hD gD, ?_⟩
      rw [upd_same]
      have e1 : inV (.str (S k)) (sV cs) = true := by rw [inV_sV]; exact decide_eq_true (hs.mem k mk)
      show some (HO.lst (((List.replicate i true).map V.bl) ++ [V.bl (inV (.str (S k)) (sV cs))])) = _
      rw [e1, rep_app]
    rintro H' ⟨st, hL⟩
    refine ⟨D, _, rfl, SqL.of hL, ?_⟩
    rw [all_rep]
    exact ⟨true, rfl, iteT ⟨_, rfl, a, ks, rfl, .inl (sqL_same hk st.gh), hs.nd, h100, _, rfl, q H' st⟩⟩
  · have hkH := sqT_same hk hG
    refine ⟨_, (pss_one (ps_ret (pe_and (pe_callB (cr_all rfl) (by rfl) (z_all T) boot_all (pa_cons (pe_lc (own := [("name", 2)]) rfl sc_are_unlike.nd (pi_tupK (K := K) rfl (pv 0)) (blkOk_by (N := N_are_unlike) (sc := defScope s_are_unlike) (by decide +kernel)) (fun _ _ _ _ _ => (pg_name (i := 2) sc_are_unlike.nd rfl (Or.inl rfl))) (fun _ _ _ _ _ => pts_nil) (fun _ _ _ _ _ => (pe_cmpR (op_in_seqK (K := K) rfl) (pv 2) (pv 1) (by rfl)))) pa_nil)) (pe_one (pe_not (C8.pe_c c_has_twice hr (by first | decide | omega) rfl (pa_cons (pv 0) pa_nil))))))), ?_⟩
    refine ⟨_, rfl, a, rfl, ⟨_, hkH⟩, fun D hD => ?_⟩
    have gD := hG.free hD
    refine lc_tup (K := K) (a := a) (xs := sV ks) (fun i H' => Step none G H G H' ∧ H' D = some (.lst ((List.replicate i true).map V.bl))) ⟨(Step.refl hG).loc hD gD, upd_same⟩ ?_ ?_ ?_
    · rintro i H' _ ⟨st, _⟩
      exact sqT_same hk st.gh
    · rintro i x H' hx ⟨st, hL⟩
      obtain ⟨k, mk, rfl, hi⟩ := sV_at hx
      refine ⟨rfl, ?_⟩
      unfold tYes
      refine iteT ⟨_, rfl, _, rfl, c, sV cs, rfl, .inl (sqL_same hc st.gh), rfl, sV_flat cs, _, hL, by rw [List.length_map, List.length_replicate]; omega, st.loc hD gD, ?_⟩
      rw [upd_same]
      have e1 : inV (.str (S k)) (sV cs) = true := by rw [inV_sV]; exact decide_eq_true (hs.mem k mk)
      show some (HO.lst (((List.replicate i true).map V.bl) ++ [V.bl (inV (.str (S k)) (sV cs))])) = _
      rw [e1, rep_app]
    rintro H' ⟨st, hL⟩
    refine ⟨D, _, rfl, SqL.of hL, ?_⟩
    rw [all_rep]
    exact ⟨true, rfl, iteT ⟨_, rfl, a, ks, rfl, .inr (sqT_same hk st.gh), hs.nd, h100, _, rfl, q H' st⟩⟩
abbrev N_is_dealt : List Str := ["lies", "columns", "_", "rule", "dealt"]
theorem sc_is_dealt : FnScope N_is_dealt ["lies", "columns"] (defScope s_is_dealt) := ⟨rfl, rfl, rfl, by decide +kernel, rfl, by decide +kernel, by decide +kernel⟩
theorem c_is_dealt (T : Tx K mg) : C8.Cal P w K mg base 3 "_is_dealt" (spDealt K) [] := by
  obtain ⟨fd, F⟩ := f_is_dealt T
  have c_is_name := c_is_name (P := P) (w := w) (base := base) T
  have c_are_unlike := c_are_unlike (P := P) (w := w) (base := base) T
  have pe_g_MOST_DEALT : ∀ {X : Cx} {pos : Pos}, X.mg = mg → Gl X "MOST_DEALT" → PE X (.Name "MOST_DEALT" pos) (tC (.int 3)) := fun h1 h2 => by
    obtain ⟨t, e⟩ := ci_MOST_DEALT T
    exact pe_glob h2 (by rw [h1]; exact e) ⟨t, rfl⟩
  refine mkCal F (g_is_dealt T) (F.bindsN fun _ _ _ _ _ _ us hl => match us, hl with | [_, _], _ => rfl) .nil sc_is_dealt (fun vs H Q E h => ?_) (fun cdv A outer s H vs Q E hr h => ?_)
  · obtain ⟨G, a, c, r, ds, cs, rfl, _⟩ := h
    rfl
  obtain ⟨G, a, c, r, ds, cs, rfl, hG, hl, hc, hok, q⟩ := h
  obtain ⟨nr, hsub, lo, hi⟩ := hok.d r ds rfl
  obtain ⟨d, h1, h2⟩ := hl
  have h1' := sqT_same h1 hG
  have h2' := sqT_same h2 hG
  refine ⟨_, (pss_cons (ps_if (PW.pt (pw_or (pt_not (pt_val (pe_callB (call_isiK' (K := K) rfl) (by rfl) (z_isinstance T) boot_isinstance (pa_cons (pv 0) (pa_cons (pe_bltn (v := .ty "tuple") (by rfl) (z_tuple T) boot_tuple rfl) pa_nil))))) (pw_or (pt_cmpR op_ne (pe_callB (call_len_seqK (K := K) rfl) (by rfl) (z_len T) boot_len (pa_cons (pv 0) pa_nil)) pe_int (nomark _)) (pw_or1 (pt_cmpR op_ne (pe_ix (ix_tupK (K := K) rfl) (pv 0) pe_int (fun _ _ => rfl)) pe_str (nomark _)))))) (pss_one (ps_ret pe_bl)) pss_nil)
    (pss_cons (ps_asg (pv 0) (pg_tup rfl (pgs_cons (pg_name (i := 2) sc_is_dealt.nd rfl (Or.inl rfl)) (pgs_cons (pg_name (i := 3) sc_is_dealt.nd rfl (Or.inl rfl)) (pgs_cons (pg_name (i := 4) sc_is_dealt.nd rfl (Or.inl rfl)) pgs_nil)))))
    (pss_cons (ps_if (PW.pt (pw_or (pt_not (pt_val (C8.pe_c c_is_name hr (by first | decide | omega) rfl (pa_cons (pv 3) pa_nil)))) (pw_or1 (pt_not (pt_val (pe_callB (call_isiK' (K := K) rfl) (by rfl) (z_isinstance T) boot_isinstance (pa_cons (pv 4) (pa_cons (pe_bltn (v := .ty "tuple") (by rfl) (z_tuple T) boot_tuple rfl) pa_nil)))))))) (pss_one (ps_ret pe_bl)) pss_nil)
    (pss_one (ps_ret (pe_and (pe_chain op_le op_le pe_int (pe_callB (call_len_seqK (K := K) rfl) (by rfl) (z_len T) boot_len (pa_cons (pv 4) pa_nil)) (pe_g_MOST_DEALT rfl rfl)) (pe_one (C8.pe_c c_are_unlike hr (by first | decide | omega) rfl (pa_cons (pv 4) (pa_cons (pv 1) pa_nil)))))))))), ?_⟩
  refine ⟨_, rfl, _, _, .type "tuple", .type "tuple", true, rfl, .ty "tuple", sqT_ty h1', kit_ty (by decide +kernel), _, rfl, ?_⟩
  refine iteF ?_
  refine ⟨_, rfl, a, _, rfl, .inr h1', rfl, _, rfl, ?_⟩
  refine ite2 (fun c => absurd c (by simp)) (fun _ => ?_)
  refine ⟨_, rfl, a, _, 0, _, rfl, rfl, h1', atI_nat (j := 0) rfl, rfl, _, rfl, ?_⟩
  refine ite2 (fun c => absurd c (by rw [dealt_]; simp)) (fun _ => ?_)
  refine ⟨_, rfl, a, _, rfl, h1', rfl, _, _, rfl, _, _, rfl, _, _, rfl, rfl, ?_⟩
  refine ⟨_, rfl, G, r, rfl, nr, hG, fun H1 s1 => ⟨_, rfl, iteF ?_⟩⟩
  have h2'' := sqT_same h2 s1.gh
  refine ⟨_, rfl, _, _, .type "tuple", .type "tuple", true, rfl, .ty "tuple", sqT_ty h2'', kit_ty (by decide +kernel), _, rfl, iteF ?_⟩
  refine ⟨_, rfl, d, _, rfl, .inr h2'', _, _, rfl, rfl, _, rfl, ?_⟩
  refine ite2 (fun _ => ?_) (fun c => absurd (decide_eq_true (by rw [sV_len]; omega)) c)
  refine ⟨_, _, rfl, rfl, _, rfl, ?_⟩
  refine ite2 (fun _ => ?_) (fun c => absurd (decide_eq_true (by rw [sV_len]; omega)) c)
  exact ⟨_, rfl, _, rfl, G, d, c, ds, cs, rfl, s1.gh, .inr h2, hc, hsub, by omega, fun H2 s2 => q H2 (s1.trans s2)⟩
end Pf
namespace Bs
open PySem PySem.Spec PyProof.Rows L2 SX
variable {P : Program} {w : World} {K : PySem.W.Frag} {mg : Str → Option Value} {base : Heap}
/-- the fields that are told to `_fault_of` and `_row_of` -/
structure Flds (fs : List (Str × V)) (n : List Nat) (c k l : Addr) : Prop where
  n : fs.lookup ("name" : Str) = some (.str (S n))
  c : fs.lookup ("columns" : Str) = some (.ref c)
  k : fs.lookup ("key" : Str) = some (.ref k)
  l : fs.lookup ("lies" : Str) = some (.ref l)
structure BrAt (K : PySem.W.Frag) (G : Hp) (c k l : Addr) (b : Br) : Prop where
  c : G c = some (.lst (sV b.cs))
  k : G k = some (.lst (sV b.ky))
  l : LieAt K G l b.li
theorem BrAt.same {G H : Hp} {c k l : Addr} {b : Br} (h : BrAt K G c k l b) (s : Same G H) : BrAt K H c k l b := ⟨s _ _ h.c, s _ _ h.k, h.l.same s⟩
def spFault (K : PySem.W.Frag) (C : Addr) : Sp := fun vs H Q _ => ∃ (G : Hp) (p dx c k l : Addr) (fs : List (Str × V)) (b : Br), vs = [.ref p] ∧ Same G H ∧ H p = some (.ins C dx fs) ∧ Flds fs b.n c k l ∧ BrAt K G c k l b ∧ Ok b ∧ ∀ H' : Hp, Step none G H G H' → Q .non H'
def spRow (K : PySem.W.Frag) (C : Addr) : Sp := fun vs H Q _ => ∃ (G : Hp) (p dx c k l : Addr) (fs : List (Str × V)) (b : Br), vs = [.ref p] ∧ Same G H ∧ H p = some (.ins C dx fs) ∧ Flds fs b.n c k l ∧ BrAt K G c k l b ∧ Ok b ∧ ∀ H' : Hp, Step none G H G H' → Q (.str (S (txtB b))) H'
theorem lie_plain (l : Lie) : ([lieD .copied, lieD .anyhow, lieD .zero].any fun z => PyData.eqv z (lieD l)) = (match l with | .dealt _ _ => false | _ => true) := by
  simp only [List.any_cons, List.any_nil, lie_eqv]
  cases l <;> simp
theorem S_ok {w : List Nat} (h : ∀ c ∈ w, c < 128) : PyData.strOk (S w) = true := by
  unfold PyData.strOk
  rw [Array.all_eq_true]
  intro i hi
  have hi : i < w.length := by simpa [S] using hi
  have := h (w[i]) (List.getElem_mem hi)
  simp only [S, List.getElem_toArray, decide_eq_true_eq]
  omega
theorem Nm.ok {w : List Nat} (h : Nm w) : PyData.strOk (S w) = true := S_ok fun c hc => (sg_lt (h.sg c hc)).1
theorem lay_strs : ∀ {xs : List (List Nat)}, (∀ x ∈ xs, Nm x) → PyData.canLayAll0 (strsD xs) = true ∧ PyData.depthAll (strsD xs) = 0
  | [], _ => ⟨by simp [strsD, PyData.canLayAll0], by simp [strsD, PyData.depthAll]⟩
  | x :: r, h => by
    obtain ⟨h1, h2⟩ := lay_strs fun z hz => h z (List.mem_cons_of_mem _ hz)
    unfold strsD at h1 h2 ⊢
    exact ⟨by simp [PyData.canLayAll0, PyData.canLay0, (h x List.mem_cons_self).ok, h1], by simp [PyData.depthAll, PyData.depth, h2]⟩
theorem hd_ok (l : Lie) : PyData.strOk (S l.hd) = true := S_ok (by
  cases l with
  | dealt r ds => show ∀ c ∈ ([100, 101, 97, 108, 116] : List Nat), c < 128; decide
  | _ => decide)
theorem lay_lie {cs : List (List Nat)} {l : Lie} (h : OkL cs l) (hc : ∀ c ∈ cs, Nm c) : (lieD l).canLay0 = true ∧ (lieD l).depth ≤ 2 := by
  have hh := hd_ok l
  cases l with
  | dealt r ds =>
    obtain ⟨h1, h2, _⟩ := h.d r ds rfl
    obtain ⟨h3, h4⟩ := lay_strs fun z hz => hc z (h2.mem z hz)
    refine ⟨?_, ?_⟩
    · have hh : PyData.strOk (S [100, 101, 97, 108, 116]) = true := hh
      simp [lieD, PyData.canLay0, PyData.canLayAll0, hh, h1.ok, h3]
    · simp [lieD, PyData.depth, PyData.depthAll, h4]
  | _ => exact ⟨by simp [lieD, PyData.canLay0, PyData.canLayAll0, hh], by simp [lieD, PyData.depth, PyData.depthAll]⟩
theorem shp_lie {cs : List (List Nat)} {l : Lie} (h : OkL cs l) (hc : ∀ c ∈ cs, Nm c) : SeqAt.shaped (lieD l) = true := by
  obtain ⟨h1, h2⟩ := lay_lie h hc
  unfold SeqAt.shaped
  rw [h1, Bool.true_and, decide_eq_true_eq]
  omega
theorem shp_plain : SeqAt.shaped (.tuple [lieD .copied, lieD .anyhow, lieD .zero]) = true := by
  have h1 := hd_ok .copied
  have h2 := hd_ok .anyhow
  have h3 := hd_ok .zero
  unfold SeqAt.shaped
  simp [lieD, PyData.canLay0, PyData.canLayAll0, PyData.depth, PyData.depthAll, h1, h2, h3]
end Bs
namespace Pf
open PySem PySem.Spec PyProof.Rows L2 Bs SX
variable {P : Program} {w : World} {K : PySem.W.Frag} {mg : Str → Option Value} {base : Heap}
abbrev CTb (K : PySem.W.Frag) : Addr := He.ga K "Table"
abbrev N_fault_of : List Str := ["table", "name"]
theorem sc_fault_of : FnScope N_fault_of ["table"] (defScope s_fault_of) := ⟨rfl, rfl, rfl, by decide +kernel, rfl, by decide +kernel, by decide +kernel⟩
theorem c_fault_of (T : Tx K mg) : C8.Cal P w K mg base 4 "_fault_of" (spFault K (CTb K)) [] := by
  obtain ⟨fd, F⟩ := f_fault_of T
  have c_is_name := c_is_name (P := P) (w := w) (base := base) T
  have c_has_twice := c_has_twice (P := P) (w := w) (base := base) T
  have c_are_unlike := c_are_unlike (P := P) (w := w) (base := base) T
  have c_is_dealt := c_is_dealt (P := P) (w := w) (base := base) T
  have pe_g_Table : ∀ {X : Cx} {pos : Pos}, X.mg = mg → Gl X "Table" → PE X (.Name "Table" pos) (tC (.ref (CTb K))) := fun h1 h2 => C8.pe_gc h2 ⟨_, by rw [h1]; exact g_Table T, rfl⟩
  have pe_g_PLAIN_LIES : ∀ {X : Cx} {pos : Pos}, X.mg = mg → Gl X "PLAIN_LIES" → PE X (.Name "PLAIN_LIES" pos) (tC (.ref (He.ga K "PLAIN_LIES"))) := fun h1 h2 => C8.pe_gc h2 ⟨_, by rw [h1]; exact g_PLAIN_LIES T, rfl⟩
  refine mkCal F (g_fault_of T) (F.bindsN fun _ _ _ _ _ _ us hl => match us, hl with | [_], _ => rfl) .nil sc_fault_of (fun vs H Q E h => ?_) (fun cdv A outer s H vs Q E hr h => ?_)
  · obtain ⟨G, p, dx, c, k, l, fs, b, rfl, _⟩ := h
    rfl
  obtain ⟨G, p, dx, c, k, l, fs, b, rfl, hG, hp, hf, hb, ok, q⟩ := h
  have C0 := cls_Table_ T
  refine ⟨_, (pss_cons (ps_if (pt_not (pt_val (C8.pe_c c_is_name hr (by first | decide | omega) rfl (pa_cons (pe_fldK (K := K) rfl (pv 0) (by rfl)) pa_nil)))) (pss_one (ps_ret pe_str)) pss_nil)
    (pss_cons (ps_if (pt_not (pt_chain op_le op_le pe_int (pe_callB (call_len_seqK (K := K) rfl) (by rfl) (z_len T) boot_len (pa_cons (pe_fldK (K := K) rfl (pv 0) (by rfl)) pa_nil)) (ClX.pe_cval (pe_g_Table rfl rfl)))) (pss_one (ps_ret pe_str)) pss_nil)
    (pss_cons (ps_if (PW.pt (pw_or (pt_not (pt_val (pe_callB (cr_all rfl) (by rfl) (z_all T) boot_all (pa_cons (pe_lc (own := [("name", 1)]) rfl sc_fault_of.nd (pi_listK (K := K) rfl (pe_fldK (K := K) rfl (pv 0) (by rfl))) (blkOk_by (N := N_fault_of) (sc := defScope s_fault_of) (by decide +kernel)) (fun _ _ _ _ _ => (pg_name (i := 1) sc_fault_of.nd rfl (Or.inl rfl))) (fun _ _ _ _ _ => pts_nil) (fun _ _ _ _ _ => (C8.pe_c c_is_name hr (by first | decide | omega) rfl (pa_cons (pv 1) pa_nil)))) pa_nil)))) (pw_or1 (pt_val (C8.pe_c c_has_twice hr (by first | decide | omega) rfl (pa_cons (pe_fldK (K := K) rfl (pv 0) (by rfl)) pa_nil)))))) (pss_one (ps_ret pe_str)) pss_nil)
    (pss_cons (ps_if (pt_not (pt_val (C8.pe_c c_are_unlike hr (by first | decide | omega) rfl (pa_cons (pe_fldK (K := K) rfl (pv 0) (by rfl)) (pa_cons (pe_fldK (K := K) rfl (pv 0) (by rfl)) pa_nil))))) (pss_one (ps_ret pe_str)) pss_nil)
    (pss_one (ps_ret (pe_ifExp (PW.pt (pw_or (pt_cmpR (op_inDT (lt65 hr)) (pe_fldK (K := K) rfl (pv 0) (by rfl)) (pe_g_PLAIN_LIES rfl rfl) (by rfl)) (pw_or1 (pt_val (C8.pe_c c_is_dealt hr (by first | decide | omega) rfl (pa_cons (pe_fldK (K := K) rfl (pv 0) (by rfl)) (pa_cons (pe_fldK (K := K) rfl (pv 0) (by rfl)) pa_nil))))))) pe_non pe_str))))))), ?_⟩
  refine ⟨_, rfl, p, CTb K, dx, _, _, rfl, hp, C0, noat_Table_name T, hf.n, G, b.n, rfl, ok.n, hG, fun H1 s1 => ⟨_, rfl, iteF ?_⟩⟩
  have hp1 := s1.same _ _ hp
  obtain ⟨u8, cv⟩ := Hd.clsIntB_ok (ex_12 T)
  refine ⟨_, rfl, p, CTb K, dx, _, _, rfl, hp1, C0, noat_Table_columns T, hf.c, c, _, rfl, .inl (SqL.of (s1.gh _ _ hb.c)), _, _, rfl, rfl, _, rfl, ?_⟩
  refine ite2 (fun _ => ?_) (fun z => absurd (decide_eq_true (by rw [sV_len]; have := ok.c.lo; omega)) z)
  refine ⟨_, _, _, _, rfl, ⟨ex_10 T, He.eqO_ok (ex_11 T)⟩, cv, _, _, rfl, rfl, _, rfl, ?_⟩
  refine ite2 (fun z => absurd (show decide (((sV b.cs).length : Int) ≤ 8) = true from decide_eq_true (by rw [sV_len]; have := ok.c.hi; omega)) (by rw [Bool.not_eq_true'] at z; rw [z]; simp)) (fun _ => ?_)
  refine ⟨_, rfl, p, CTb K, dx, _, _, rfl, hp1, C0, noat_Table_columns T, hf.c, c, rfl, ⟨_, SqL.of (s1.gh _ _ hb.c)⟩, fun D hD => ?_⟩
  have gD := s1.gh.free hD
  have hD0 := s1.free hD
  refine lc_list (K := K) (a := c) (xs := sV b.cs) (fun i H' => Step none G H G H' ∧ H' D = some (.lst ((List.replicate i true).map V.bl))) ⟨s1.loc hD0 gD, upd_same⟩ ?_ ?_ ?_
  · rintro i H' _ ⟨st, _⟩
    exact SqL.of (st.gh _ _ hb.c)
  · rintro i x H' hx ⟨st, hL⟩
    obtain ⟨k', mk, rfl, hi⟩ := sV_at hx
    have := ok.c.hi
    have sl : sizeLine = 16777216 := rfl
    refine ⟨rfl, ?_⟩
    unfold tYes
    refine iteT ⟨_, rfl, G, k', rfl, ok.c.nm k' mk, st.gh, fun H2 s2 => ⟨_, s2.same _ _ hL, by rw [List.length_map, List.length_replicate]; omega, (st.trans s2).loc hD0 gD, ?_⟩⟩
    rw [upd_same, rep_app]
  rintro H2 ⟨s2, hL⟩
  have hp2 := s2.same _ _ hp
  refine ⟨D, _, rfl, SqL.of hL, ?_⟩
  rw [all_rep]
  refine ⟨_, rfl, iteF ⟨_, rfl, p, CTb K, dx, _, _, rfl, hp2, C0, noat_Table_columns T, hf.c, c, b.cs, rfl, .inl (SqL.of (s2.gh _ _ hb.c)), ok.c.nd, by have := ok.c.hi; omega, _, rfl, iteF ?_⟩⟩
  refine ⟨_, rfl, p, CTb K, dx, _, _, rfl, hp2, C0, noat_Table_key T, hf.k, _, rfl, p, CTb K, dx, _, _, rfl, hp2, C0, noat_Table_columns T, hf.c, G, k, c, b.ky, b.cs, rfl, s2.gh, .inl (SqL.of hb.k), SqL.of hb.c, ok.k, by have := ok.k.le; have := ok.c.hi; omega, fun H3 s3 => ⟨_, rfl, iteF ?_⟩⟩
  have s23 := s2.trans s3
  have hp3 := s23.same _ _ hp
  have hl3 := hb.l.same s23.gh
  have dpl : Dp K H3 (.ref (He.ga K "PLAIN_LIES")) (.tuple [lieD .copied, lieD .anyhow, lieD .zero]) := by
    refine .tup (He.tupB_ok (ex_4 T) H3) (.cons (.tup (Hd.tupAtB_ok (ex_5 T) H3) (.cons ?_ .nil)) (.cons (.tup (Hd.tupAtB_ok (ex_6 T) H3) (.cons ?_ .nil)) (.cons (.tup (Hd.tupAtB_ok (ex_7 T) H3) (.cons ?_ .nil)) .nil)))
    · rw [copied_]; exact .str _
    · rw [anyhow_]; exact .str _
    · rw [zero_w]; exact .str _
  refine ⟨_, rfl, p, CTb K, dx, _, _, rfl, hp3, C0, noat_Table_lies T, hf.l, lieD b.li, _, hl3.dp, dpl, shp_lie ok.l ok.c.nm, shp_plain, _, rfl, ?_⟩
  rw [lie_plain]
  have okl := ok.l
  have hbl := hb.l
  revert okl hbl hl3
  cases b.li with
  | dealt r ds =>
    intro hl3 okl hbl
    refine iteF ⟨_, rfl, p, CTb K, dx, _, _, rfl, hp3, C0, noat_Table_lies T, hf.l, _, rfl, p, CTb K, dx, _, _, rfl, hp3, C0, noat_Table_columns T, hf.c, G, l, c, r, ds, b.cs, rfl, s23.gh, hbl, SqL.of hb.c, okl, fun H4 s4 => ⟨_, rfl, iteT (q H4 (s23.trans s4))⟩⟩
  | _ =>
    intro _ _ _
    exact iteT (q H3 s23)
end Pf
namespace Bs
open PySem PySem.Spec PyProof.Rows L2 SX
theorem table_ : ("table" : Str) = S tbW := by decide +kernel
theorem key_ : ("key" : Str) = S kyW := by decide +kernel
theorem sp_ : (" " : Str) = S [32] := by decide +kernel
def kyP (ky : List (List Nat)) : List (List Nat) := if ky = [] then [] else kyW :: ky
theorem kyP_len (ky : List (List Nat)) : (kyP ky).length ≤ ky.length + 1 := by unfold kyP; split <;> simp
theorem sV_app (xs ys : List (List Nat)) : sV xs ++ sV ys = sV (xs ++ ys) := by
  show (xs.map S).map V.str ++ (ys.map S).map V.str = ((xs ++ ys).map S).map V.str
  rw [List.map_append, List.map_append]
theorem Ok.hd8 (l : Lie) : l.hd.length ≤ 8 := match l with
  | .copied => by decide
  | .anyhow => by decide
  | .zero => by decide
  | .dealt _ _ => show ([100, 101, 97, 108, 116] : List Nat).length ≤ 8 by decide
theorem Ok.w8 {b : Br} (h : Ok b) : ∀ w ∈ words b, w.length ≤ 8 := fun w hw => by
  have hl := h.l.nm h.c.nm
  unfold words rest at hw
  simp only [List.mem_cons, List.mem_append] at hw
  rcases hw with rfl | rfl | hw | hw | rfl | hw
  · decide
  · exact h.n.len
  · exact (h.c.nm w hw).len
  · split at hw
    · cases hw
    · rcases List.mem_cons.mp hw with rfl | hw
      · decide
      · exact (h.c.nm w (h.k.mem w hw)).len
  · exact Ok.hd8 _
  · exact (hl w hw).len
theorem Ok.ky8 {b : Br} (h : Ok b) : b.ky.length ≤ 8 := Nat.le_trans h.k.le h.c.hi
theorem Ok.tl8 {b : Br} (h : Ok b) : b.li.tl.length ≤ 4 := by
  have hl := h.l
  revert hl
  cases b.li with
  | dealt r ds =>
    intro hl
    obtain ⟨_, _, _, h3⟩ := hl.d r ds rfl
    show (r :: ds).length ≤ 4
    rw [List.length_cons]; omega
  | _ => intro _; show 0 ≤ 4; decide
theorem Ok.wn {b : Br} (h : Ok b) : (words b).length ≤ 30 := by
  have h1 := h.c.hi
  have h2 := h.ky8
  have h3 := h.tl8
  have h4 := kyP_len b.ky
  unfold words rest
  show ((_ : List Nat) :: _ :: (b.cs ++ (kyP b.ky ++ _))).length ≤ 30
  simp only [List.length_cons, List.length_append]
  omega
theorem sum8 : ∀ {ws : List (List Nat)}, (∀ w ∈ ws, w.length ≤ 8) → ((ws.map S).map (fun x => x.length)).sum ≤ 8 * ws.length
  | [], _ => by simp
  | w :: r, h => by
    have h1 := h w List.mem_cons_self
    have h2 := sum8 fun z hz => h z (List.mem_cons_of_mem _ hz)
    simp only [List.map_cons, List.sum_cons, S_len, List.length_cons]
    omega
end Bs
namespace Pf
open PySem PySem.Spec PyProof.Rows L2 Bs SX
variable {P : Program} {w : World} {K : PySem.W.Frag} {mg : Str → Option Value} {base : Heap}
abbrev N_row_of : List Str := ["table", "words"]
theorem sc_row_of : FnScope N_row_of ["table"] (defScope s_row_of) := ⟨rfl, rfl, rfl, by decide +kernel, rfl, by decide +kernel, by decide +kernel⟩
theorem c_row_of (T : Tx K mg) : C8.Cal P w K mg base 1 "_row_of" (spRow K (CTb K)) [] := by
  obtain ⟨fd, F⟩ := f_row_of T
  refine mkCal F (g_row_of T) (F.bindsN fun _ _ _ _ _ _ us hl => match us, hl with | [_], _ => rfl) .nil sc_row_of (fun vs H Q E h => ?_) (fun cdv A outer s H vs Q E hr h => ?_)
  · obtain ⟨G, p, dx, c, k, l, fs, b, rfl, _⟩ := h
    rfl
  obtain ⟨G, p, dx, c, k, l, fs, b, rfl, hG, hp, hf, hb, ok, q⟩ := h
  have C0 := cls_Table_ T
  refine ⟨_, (pss_cons (ps_set (i := 1) sc_row_of.nd rfl (Or.inl rfl) (pe_op op_cat (pe_lst (pa_cons pe_str (pa_cons (pe_fldK (K := K) rfl (pv 0) (by rfl)) pa_nil))) (pe_fldK (K := K) rfl (pv 0) (by rfl))))
    (C8.pss_cut (ps_if (pt_truth (pe_fldK (K := K) rfl (pv 0) (by rfl)) (by intro _; rfl)) (pss_one (ps_set (i := 1) sc_row_of.nd rfl (Or.inl rfl) (pe_op op_cat (pe_op op_cat (pv 1) (pe_lst (pa_cons pe_str pa_nil))) (pe_fldK (K := K) rfl (pv 0) (by rfl))))) pss_nil)
    (pss_cons (ps_expr (pe_bm PySem.F.plainAttrs_list PySem.F.slot_list_append PySem.F.type_list_append mt_append (pv 1) (pa_cons (pe_ix (ix_tupK (K := K) rfl) (pe_fldK (K := K) rfl (pv 0) (by rfl)) pe_int (fun _ _ => rfl)) pa_nil)))
    (C8.pss_cut (ps_if (pt_cmpR op_eq (pe_ix (ix_tupK (K := K) rfl) (pe_fldK (K := K) rfl (pv 0) (by rfl)) pe_int (fun _ _ => rfl)) pe_str (nomark _)) (pss_cons (ps_expr (pe_bm PySem.F.plainAttrs_list PySem.F.slot_list_append PySem.F.type_list_append mt_append (pv 1) (pa_cons (pe_ix (ix_tupK (K := K) rfl) (pe_fldK (K := K) rfl (pv 0) (by rfl)) pe_int (fun _ _ => rfl)) pa_nil)))
    (pss_one (ps_expr (pe_bm PySem.F.plainAttrs_list PySem.F.slot_list_extend PySem.F.type_list_extend mt_extend (pv 1) (pa_cons (pe_callTy call_list_of (by rfl) (z_list T) boot_list (pa_cons (pe_ix (ix_tupK (K := K) rfl) (pe_fldK (K := K) rfl (pv 0) (by rfl)) pe_int (fun _ _ => rfl)) pa_nil)) pa_nil))))) pss_nil)
    (pss_one (ps_ret (pe_join pe_str (pv 1)))))))), ?_⟩
  have sl : sizeLine = 16777216 := rfl
  have c8 := ok.c.hi
  have k8 := ok.ky8
  have t4 := ok.tl8
  have kp := kyP_len b.ky
  refine ⟨_, rfl, p, CTb K, dx, _, _, rfl, hp, C0, noat_Table_name T, hf.n, by show 2 ≤ sizeLine; decide, fun D0 h0 => ?_⟩
  have g0 := hG.free h0
  have s0 := (Step.refl (p := none) hG).loc (o := .lst [.str "table", .str (S b.n)]) h0 g0
  have hd0 : upd H D0 (.lst [.str "table", .str (S b.n)]) D0 = some (.lst [.str "table", .str (S b.n)]) := upd_same
  generalize upd H D0 (.lst [.str "table", .str (S b.n)]) = H0 at *
  have hp0 := s0.same _ _ hp
  refine ⟨_, rfl, p, CTb K, dx, _, _, rfl, hp0, C0, noat_Table_columns T, hf.c, D0, c, _, _, rfl, rfl, hd0, s0.gh _ _ hb.c, by rw [sV_len]; show 2 + _ ≤ _; omega, fun W hW => ?_⟩
  have e1 : [V.str "table", V.str (S b.n)] ++ sV b.cs = sV (tbW :: b.n :: b.cs) := by rw [table_]; rfl
  rw [e1]
  have hWH := s0.free hW
  have gW := s0.gh.free hW
  have s1 := s0.loc (o := .lst (sV (tbW :: b.n :: b.cs))) hWH gW
  have hW1 : upd H0 W (.lst (sV (tbW :: b.n :: b.cs))) W = some (.lst (sV (tbW :: b.n :: b.cs))) := upd_same
  generalize upd H0 W (.lst (sV (tbW :: b.n :: b.cs))) = H1 at *
  clear s0 hd0 hp0 e1
  have hp1 := s1.same _ _ hp
  refine ⟨fun σ' H' => ∃ W, σ' = [some (.ref p), some (.ref W)] ∧ Step none G H G H' ∧ H W = none ∧ G W = none ∧ H' W = some (.lst (sV ((tbW :: b.n :: b.cs) ++ kyP b.ky))), ?_, ?_⟩
  · refine ⟨_, rfl, p, CTb K, dx, _, _, rfl, hp1, C0, noat_Table_key T, hf.k, _, .inl ⟨_, SqL.of (s1.gh _ _ hb.k), rfl⟩, ?_⟩
    refine ite2 (fun z => ?_) (fun z => ?_)
    · have hky : b.ky ≠ [] := fun e => by rw [e] at z; simp at z
      refine ⟨_, rfl, by show 1 ≤ sizeLine; decide, fun D2 h2 => ?_⟩
      have s2 := s1.loc (o := .lst [.str "key"]) (s1.free h2) (s1.gh.free h2)
      refine ⟨W, D2, _, _, rfl, rfl, by rw [upd_ne (ne_of_none hW1 h2)]; exact hW1, upd_same, by rw [sV_len]; show (b.cs.length + 1 + 1) + 1 ≤ _; omega, fun D3 h3 => ?_⟩
      have e3 : sV (tbW :: b.n :: b.cs) ++ [V.str "key"] = sV ((tbW :: b.n :: b.cs) ++ [kyW]) := by rw [key_]; exact sV_app (tbW :: b.n :: b.cs) [kyW]
      rw [e3]
      have s3 := s2.loc (o := .lst (sV ((tbW :: b.n :: b.cs) ++ [kyW]))) (s2.free h3) (s2.gh.free h3)
      have hp3 := s3.same _ _ hp
      refine ⟨_, rfl, p, CTb K, dx, _, _, rfl, hp3, C0, noat_Table_key T, hf.k, D3, k, _, _, rfl, rfl, upd_same, s3.gh _ _ hb.k, by rw [sV_len, sV_len, List.length_append]; show (b.cs.length + 1 + 1) + 1 + _ ≤ _; omega, fun D4 h4 => ?_⟩
      have e4 : sV ((tbW :: b.n :: b.cs) ++ [kyW]) ++ sV b.ky = sV ((tbW :: b.n :: b.cs) ++ kyP b.ky) := by
        rw [sV_app, List.append_assoc]
        unfold kyP
        rw [if_neg hky]
        rfl
      rw [e4]
      exact ⟨D4, rfl, s3.loc (s3.free h4) (s3.gh.free h4), s3.free h4, s3.gh.free h4, upd_same⟩
    · have hky : b.ky = [] := by
        cases e : b.ky with
        | nil => rfl
        | cons x r => rw [e] at z; exact absurd (by rfl) z
      refine ⟨W, rfl, s1, hWH, gW, ?_⟩
      have e5 : kyP b.ky = [] := by unfold kyP; rw [if_pos hky]
      rw [e5, List.append_nil]
      exact hW1
  clear hWH gW hW1 hW s1
  rintro σ' H2 ⟨W, rfl, s2, hWH, gW, hW2⟩
  have hp2 := s2.same _ _ hp
  have hn : W ≠ p := fun e => by rw [e, hp] at hWH; cases hWH
  obtain ⟨lr, hlr⟩ := hb.l.hd
  refine ⟨_, rfl, .inl ⟨rfl, _, SqL.of hW2⟩, _, rfl, p, CTb K, dx, _, _, rfl, hp2, C0, noat_Table_lies T, hf.l, l, _, 0, _, rfl, rfl, sqT_same hlr s2.gh, atI_nat (j := 0) rfl, W, _, _, rfl, rfl, hW2, by rw [sV_len, List.length_append]; show (b.cs.length + 1 + 1) + _ < _; omega, ?_⟩
  have e6 : sV ((tbW :: b.n :: b.cs) ++ kyP b.ky) ++ [V.str (S b.li.hd)] = sV (((tbW :: b.n :: b.cs) ++ kyP b.ky) ++ [b.li.hd]) := sV_app _ [b.li.hd]
  rw [e6]
  have s3 := s2.loc (o := .lst (sV (((tbW :: b.n :: b.cs) ++ kyP b.ky) ++ [b.li.hd]))) hWH gW
  have hW3 : upd H2 W (.lst (sV (((tbW :: b.n :: b.cs) ++ kyP b.ky) ++ [b.li.hd]))) W = some (.lst (sV (((tbW :: b.n :: b.cs) ++ kyP b.ky) ++ [b.li.hd]))) := upd_same
  generalize upd H2 W (.lst (sV (((tbW :: b.n :: b.cs) ++ kyP b.ky) ++ [b.li.hd]))) = H3 at *
  clear hp2 hW2 s2 e6
  have hp3 := s3.same _ _ hp
  have ew : words b = (((tbW :: b.n :: b.cs) ++ kyP b.ky) ++ [b.li.hd]) ++ b.li.tl := by
    unfold words Bs.rest
    show tbW :: b.n :: (b.cs ++ (kyP b.ky ++ b.li.hd :: b.li.tl)) = _
    simp [List.append_assoc]
  refine ⟨fun σ' H' => σ' = [some (.ref p), some (.ref W)] ∧ Step none G H G H' ∧ H' W = some (.lst (sV (words b))), ?_, ?_⟩
  · refine ⟨_, rfl, p, CTb K, dx, _, _, rfl, hp3, C0, noat_Table_lies T, hf.l, l, _, 0, _, rfl, rfl, sqT_same hlr s3.gh, atI_nat (j := 0) rfl, rfl, _, rfl, ?_⟩
    have hbl := hb.l
    revert hbl hW3 ew t4
    cases b.li with
    | dealt r ds =>
      intro t4 hW3 ew hbl
      have ed : (Lie.dealt r ds).hd = [100, 101, 97, 108, 116] := rfl
      obtain ⟨d, h1, h2⟩ := hbl
      refine ite2 (fun _ => ?_) (fun z => absurd (decide_eq_true (by rw [dealt_, ed])) z)
      refine ⟨_, rfl, .inl ⟨rfl, _, SqL.of hW3⟩, _, rfl, p, CTb K, dx, _, _, rfl, hp3, C0, noat_Table_lies T, hf.l, l, _, 1, _, rfl, rfl, sqT_same h1 s3.gh, atI_nat (j := 1) rfl, W, _, _, rfl, rfl, hW3, by rw [sV_len, List.length_append, List.length_append]; show (b.cs.length + 1 + 1) + _ + 1 < _; omega, ?_⟩
      have s4 := s3.loc (o := .lst (sV (((tbW :: b.n :: b.cs) ++ kyP b.ky) ++ [(Lie.dealt r ds).hd]) ++ [V.str (S r)])) hWH gW
      have hp4 := s4.same _ _ hp
      have d3 : ds.length + 1 ≤ 4 := t4
      refine ⟨_, rfl, .inl ⟨rfl, _, SqL.of upd_same⟩, _, rfl, p, CTb K, dx, _, _, rfl, hp4, C0, noat_Table_lies T, hf.l, l, _, 2, _, rfl, rfl, sqT_same h1 s4.gh, atI_nat (j := 2) rfl, d, _, rfl, .inr (sqT_same h2 s4.gh), fun Dl hl => ?_⟩
      have nl : W ≠ Dl := ne_of_none upd_same hl
      have s5 := s4.loc (o := .lst (sV ds)) (s4.free hl) (s4.gh.free hl)
      refine ⟨W, Dl, _, _, rfl, rfl, by rw [upd_ne nl]; exact upd_same, upd_same, by rw [List.length_append, sV_len, sV_len, List.length_append, List.length_append]; show (b.cs.length + 1 + 1) + _ + 1 + 1 + _ ≤ _; omega, rfl, s5.loc hWH gW, ?_⟩
      rw [upd_same, ew]
      refine congrArg (fun z => some (HO.lst z)) ?_
      rw [List.append_assoc]
      exact sV_app _ (r :: ds)
    | _ =>
      intro t4 hW3 ew _
      refine ite2 (fun z => absurd (V.str.inj (of_decide_eq_true z)) (by decide +kernel)) (fun _ => ⟨rfl, s3, ?_⟩)
      rw [ew]
      exact hW3.trans (by rw [show Lie.tl _ = [] from rfl, List.append_nil])
  rintro σ' H4 ⟨rfl, s4, hW4⟩
  have w8 := sum8 ok.w8
  have wn := ok.wn
  refine ⟨⟨_, rfl⟩, _, rfl, " ", W, (words b).map S, rfl, rfl, .inl (SqL.of hW4), ?_, ?_⟩
  · have l1 : (" " : Str).length = 1 := by decide +kernel
    rw [l1, List.length_map]
    omega
  · rw [sp_, join_S]
    exact q H4 s4
end Pf
namespace Bs
open PySem PySem.Spec PyProof.Rows L2 SX
variable {P : Program} {w : World} {K : PySem.W.Frag} {mg : Str → Option Value} {base : Heap}
def tbf (n : List Nat) (c k l : Addr) (t : List Nat) : List (Str × V) := putF "text" (.str (S t)) (putF "lies" (.ref l) (putF "key" (.ref k) (putF "columns" (.ref c) (putF "name" (.str (S n)) []))))
theorem fl4 {n : List Nat} {c k l : Addr} : Flds (putF "lies" (.ref l) (putF "key" (.ref k) (putF "columns" (.ref c) (putF "name" (.str (S n)) [])))) n c k l := by
  refine ⟨?_, ?_, ?_, ?_⟩
  · rw [lookup_putF, if_neg (by decide +kernel), lookup_putF, if_neg (by decide +kernel), lookup_putF, if_neg (by decide +kernel), lookup_putF, if_pos rfl]
  · rw [lookup_putF, if_neg (by decide +kernel), lookup_putF, if_neg (by decide +kernel), lookup_putF, if_pos rfl]
  · rw [lookup_putF, if_neg (by decide +kernel), lookup_putF, if_pos rfl]
  · rw [lookup_putF, if_pos rfl]
theorem tf_fl {n : List Nat} {c k l : Addr} {t : List Nat} : Flds (tbf n c k l t) n c k l := by
  obtain ⟨h1, h2, h3, h4⟩ := fl4 (n := n) (c := c) (k := k) (l := l)
  exact ⟨by unfold tbf; rw [lookup_putF, if_neg (by decide +kernel)]; exact h1, by unfold tbf; rw [lookup_putF, if_neg (by decide +kernel)]; exact h2, by unfold tbf; rw [lookup_putF, if_neg (by decide +kernel)]; exact h3, by unfold tbf; rw [lookup_putF, if_neg (by decide +kernel)]; exact h4⟩
theorem tf_t {n : List Nat} {c k l : Addr} {t : List Nat} : (tbf n c k l t).lookup ("text" : Str) = some (.str (S t)) := by unfold tbf; rw [lookup_putF, if_pos rfl]
theorem putF_le (f : Str) (v : V) : ∀ fs : List (Str × V), (putF f v fs).length ≤ fs.length + 1 := fun fs => by
  induction fs with
  | nil => simp [putF]
  | cons x r ih =>
    unfold putF
    split <;> simp <;> omega
theorem sq_off {H : Hp} {p a C dx : Addr} {fs : List (Str × V)} {xs : List V} {o : HO} (h : SqL K H a xs) (hp : H p = some (.ins C dx fs)) : SqL K (upd H p o) a xs := by
  rcases h with (h | ⟨u, h⟩) | h
  · exact .inl (.inl (by rw [upd_ne (ne_of h hp (by intro z; cases z))]; exact h))
  · exact .inl (.inr ⟨u, by rw [upd_ne (ne_of h hp (by intro z; cases z))]; exact h⟩)
  · exact .inr h
theorem sq_off' {H : Hp} {p a C dx : Addr} {fs : List (Str × V)} {xs : List V} {o : HO} (h : Sq K H a xs) (hp : H p = some (.ins C dx fs)) : Sq K (upd H p o) a xs := by
  rcases h with h | (h | ⟨u, h⟩) | h
  · exact .inl (sq_off h hp)
  · exact .inr (.inl (.inl (by rw [upd_ne (ne_of h hp (by intro z; cases z))]; exact h)))
  · exact .inr (.inl (.inr ⟨u, by rw [upd_ne (ne_of h hp (by intro z; cases z))]; exact h⟩))
  · exact .inr (.inr h)
theorem Sq.new {H : Hp} {q a : Addr} {xs : List V} {o : HO} (h : Sq K H a xs) (hq : H q = none) : Sq K (upd H q o) a xs := h.same (Same.new (Same.refl H) hq)
/-- a table that stands and never changes -/
structure TbAt (K : PySem.W.Frag) (C : Addr) (G : Hp) (a : Addr) (b : Br) : Prop where
  ex : ∃ dx c k l, G a = some (.ins C dx (tbf b.n c k l (txtB b))) ∧ BrAt K G c k l b
theorem TbAt.same {C : Addr} {G H : Hp} {a : Addr} {b : Br} (h : TbAt K C G a b) (s : Same G H) : TbAt K C H a b := by
  obtain ⟨dx, c, k, l, h1, h2⟩ := h.ex
  exact ⟨dx, c, k, l, s _ _ h1, h2.same s⟩
def spTInit (K : PySem.W.Frag) (C : Addr) : Sp := fun vs H Q _ => ∃ (G : Hp) (p dx ca ka l : Addr) (b : Br), vs = [.ref p, .str (S b.n), .ref ca, .ref ka, .ref l] ∧ Same G H ∧ G p = none ∧ H p = some (.ins C dx []) ∧ SqL K H ca (sV b.cs) ∧ Sq K H ka (sV b.ky) ∧ LieAt K G l b.li ∧ Ok b ∧
  ∀ (G' H' : Hp) (c k : Addr), Step (some p) G H G' H' → G' p = none → H' p = some (.ins C dx (tbf b.n c k l (txtB b))) → BrAt K G' c k l b → Q .non H'
theorem Step.atP {p : Addr} {G H G1 H1 : Hp} {o : HO} (a : Step (some p) G H G1 H1) (gp : G1 p = none) : Step (some p) G H G1 (upd H1 p o) where
  gg := a.gg
  gh := Same.off a.gh gp
  new := a.new
  kp b u e n := by rw [upd_ne (fun z => n (by rw [z]))]; exact a.kp b u e n
  pp b e h := by cases e; rw [upd_same]; exact fun z => by cases z
theorem Step.new1 {p q : Addr} {G H G1 H1 : Hp} {o : HO} (a : Step (some p) G H G1 H1) (hq : H1 q = none) : Step (some p) G H (upd G1 q o) (upd H1 q o) := a.new_ hq
theorem Step.absorb {G H G1 H1 : Hp} {f : Addr} {o : HO} (hf : H f = none) (a : Step (some f) G (upd H f o) G1 H1) : Step none G H G1 H1 where
  gg := a.gg
  gh := a.gh
  new b hb := by
    rcases a.new b hb with h | h
    · exact .inl h
    · by_cases c : b = f
      · exact .inr (c ▸ hf)
      · rw [upd_ne c] at h; exact .inr h
  kp b u e _ := by
    have c : b ≠ f := ne_of_none e hf
    exact a.kp b u (by rw [upd_ne c]; exact e) fun z => c (Option.some.inj z)
  pp b e := by cases e
end Bs
namespace Pf
open PySem PySem.Spec PyProof.Rows L2 Bs SX
variable {P : Program} {w : World} {K : PySem.W.Frag} {mg : Str → Option Value} {base : Heap}
theorem ok0' {nm qual : Str} {par : Arguments} {bd : List Stmt} {sco : Scope} {N ps : List Str} {k : Nat} {sp : Sp} {kws : List (Str × V)} {dvs' : List V} {a : Addr} {fd : FuncData}
    (F : FunD K nm qual par bd sco dvs' kws a fd) (S : FnScope N ps sco) (len : ∀ vs H Q E, sp vs H Q E → vs.length = ps.length)
    (body : ∀ (cdv : Value) (A : Around) (outer : List Env) (s : Shared) (H : Hp) (vs : List V) (Q : VK) (E : XK), Room k (A.deeper (envOfC qual sco s.heap.objs.size a cdv)) → sp vs H Q E →
      ∃ t, PSs (cxOf C8.CX0 P w K mg base N qual sco a cdv A outer s H E).nox bd t ∧ t { nx := fun _ H' => Q .non H', rt := Q } (start N vs) H) : FnOk P w K mg base C8.CX0 (k + 1) a fd ps sp :=
  F.ok S len fun cdv A outer s H vs Q E hr h => let ⟨t, h1, h2⟩ := body cdv A outer s H vs Q E hr h
    ⟨t, h1.nox, h2⟩
abbrev N_Table_init : List Str := ["self", "name", "columns", "key", "lies", "reason"]
theorem sc_Table_init : FnScope N_Table_init ["self", "name", "columns", "key", "lies"] (defScope s_Table_init) := ⟨rfl, rfl, rfl, by decide +kernel, rfl, by decide +kernel, by decide +kernel⟩
theorem o_init (T : Tx K mg) : ∃ fd, FnOk P w K mg base C8.CX0 5 (He.ma K (CTb K) "__init__") fd ["self", "name", "columns", "key", "lies"] (spTInit K (CTb K)) ∧ FunD K d_Table_init.2.name d_Table_init.2.qual d_Table_init.2.params d_Table_init.2.body d_Table_init.2.scope (d_Table_init.2.dvs K) (d_Table_init.2.kws K) (d_Table_init.1 K) fd := by
  obtain ⟨fd, F⟩ := f_Table_init T
  have c_fault_of := c_fault_of (P := P) (w := w) (base := base) T
  have c_row_of := c_row_of (P := P) (w := w) (base := base) T
  refine ⟨fd, ok0' F sc_Table_init (fun vs H Q E h => ?_) (fun cdv A outer s H vs Q E hr h => ?_), F⟩
  · obtain ⟨G, p, dx, ca, ka, l, b, rfl, _⟩ := h
    rfl
  obtain ⟨G, p, dx, ca, ka, l, b, rfl, hG, gp, hp, hc, hk, hl, ok, q⟩ := h
  have C0 := cls_Table_ T
  refine ⟨_, (pss_cons (ps_fld (pv 0) (pv 1) rfl)
    (pss_cons (ps_fld (pv 0) (pe_callTy call_list_of (by rfl) (z_list T) boot_list (pa_cons (pv 2) pa_nil)) rfl)
    (pss_cons (ps_fld (pv 0) (pe_callTy call_list_of (by rfl) (z_list T) boot_list (pa_cons (pv 3) pa_nil)) rfl)
    (pss_cons (ps_fld (pv 0) (pv 4) rfl)
    (pss_cons (ps_set (i := 5) sc_Table_init.nd rfl (Or.inl rfl) (C8.pe_c c_fault_of hr (by first | decide | omega) rfl (pa_cons (pv 0) pa_nil)))
    (pss_cons (ps_if (pt_cmpR op_notN (pv 5) pe_non (nomark _)) (pss_one ps_no) pss_nil)
    (pss_one (ps_fld (pv 0) (C8.pe_c c_row_of hr (by first | decide | omega) rfl (pa_cons (pv 0) pa_nil)) rfl)))))))), ?_⟩
  have npH : ∀ {q : Addr} {X : Hp}, X p ≠ none → X q = none → p ≠ q := fun h1 h2 e => h1 (by rw [e]; exact h2)
  have upn : ∀ {X : Hp} {o : HO}, upd X p o p ≠ none := fun {X o} => by rw [upd_same]; exact fun z => by cases z
  let f1 := putF "name" (V.str (S b.n)) []
  have s1 : Step (some p) G H G (upd H p (.ins (CTb K) dx f1)) := (Step.refl hG).atP gp
  refine ⟨_, rfl, _, rfl, p, CTb K, dx, [], rfl, hp, C0, noat_Table_name T, by show 0 < 1000; decide, ?_⟩
  have hc1 : SqL K (upd H p (.ins (CTb K) dx f1)) ca (sV b.cs) := sq_off hc hp
  refine ⟨_, rfl, ca, _, rfl, .inl hc1, fun c hcf => ?_⟩
  have npc := npH upn hcf
  have s2 := s1.new1 (o := .lst (sV b.cs)) hcf
  have g2 : upd G c (.lst (sV b.cs)) p = none := by rw [upd_ne npc]; exact gp
  have hp2 : upd (upd H p (.ins (CTb K) dx f1)) c (.lst (sV b.cs)) p = some (.ins (CTb K) dx f1) := by rw [upd_ne npc, upd_same]
  have hk2 : Sq K (upd (upd H p (.ins (CTb K) dx f1)) c (.lst (sV b.cs))) ka (sV b.ky) := Sq.new (sq_off' hk hp) hcf
  have hgc : upd G c (.lst (sV b.cs)) c = some (.lst (sV b.cs)) := upd_same
  have kg2 : Same G (upd G c (.lst (sV b.cs))) := s2.gg
  generalize upd G c (.lst (sV b.cs)) = G2 at *
  generalize upd (upd H p (.ins (CTb K) dx f1)) c (.lst (sV b.cs)) = H2 at *
  have l1 : f1.length ≤ 1 := putF_le _ _ _
  refine ⟨_, rfl, p, CTb K, dx, f1, rfl, hp2, C0, noat_Table_columns T, by omega, ?_⟩
  have s3 := s2.atP (o := .ins (CTb K) dx (putF "columns" (.ref c) f1)) g2
  have hk3 := sq_off' (o := .ins (CTb K) dx (putF "columns" (.ref c) f1)) hk2 hp2
  refine ⟨_, rfl, ka, _, rfl, hk3, fun k hkf => ?_⟩
  have npk := npH upn hkf
  have s4 := s3.new1 (o := .lst (sV b.ky)) hkf
  have g4 : upd G2 k (.lst (sV b.ky)) p = none := by rw [upd_ne npk]; exact g2
  have hp4 : upd (upd H2 p (.ins (CTb K) dx (putF "columns" (.ref c) f1))) k (.lst (sV b.ky)) p = some (.ins (CTb K) dx (putF "columns" (.ref c) f1)) := by rw [upd_ne npk, upd_same]
  have kg4 : Same G2 (upd G2 k (.lst (sV b.ky))) := Same.new (Same.refl G2) (s3.gh.free hkf)
  have hgk : upd G2 k (.lst (sV b.ky)) k = some (.lst (sV b.ky)) := upd_same
  generalize upd G2 k (.lst (sV b.ky)) = G4 at *
  generalize upd (upd H2 p (.ins (CTb K) dx (putF "columns" (.ref c) f1))) k (.lst (sV b.ky)) = H4 at *
  have l2 : (putF "columns" (.ref c) f1).length ≤ 2 := Nat.le_trans (putF_le _ _ _) (by omega)
  refine ⟨_, rfl, p, CTb K, dx, _, rfl, hp4, C0, noat_Table_key T, by omega, ?_⟩
  have l3 : (putF "key" (.ref k) (putF "columns" (.ref c) f1)).length ≤ 3 := Nat.le_trans (putF_le _ _ _) (by omega)
  refine ⟨_, rfl, _, rfl, p, CTb K, dx, _, rfl, upd_same, C0, noat_Table_lies T, by omega, ?_⟩
  rw [upd_upd]
  have s6 := s4.atP (o := .ins (CTb K) dx (putF "lies" (.ref l) (putF "key" (.ref k) (putF "columns" (.ref c) f1)))) g4
  have hp6 : upd H4 p (.ins (CTb K) dx (putF "lies" (.ref l) (putF "key" (.ref k) (putF "columns" (.ref c) f1)))) p = some (.ins (CTb K) dx (putF "lies" (.ref l) (putF "key" (.ref k) (putF "columns" (.ref c) f1)))) := upd_same
  generalize upd H4 p (.ins (CTb K) dx (putF "lies" (.ref l) (putF "key" (.ref k) (putF "columns" (.ref c) f1)))) = H6 at *
  have bat : BrAt K G4 c k l b := ⟨kg4 _ _ hgc, hgk, hl.same (kg2.trans kg4)⟩
  refine ⟨_, rfl, G4, p, dx, c, k, l, _, b, rfl, s6.gh, hp6, fl4, bat, ok, fun H7 s7 => ?_⟩
  have hp7 := s7.same _ _ hp6
  refine ⟨_, rfl, rfl, _, rfl, ?_⟩
  refine ite2 (fun z => absurd z (by simp)) (fun _ => ?_)
  refine ⟨_, rfl, G4, p, dx, c, k, l, _, b, rfl, s7.gh, hp7, fl4, bat, ok, fun H8 s8 => ?_⟩
  have hp8 := s8.same _ _ hp7
  have l4 : (putF "lies" (.ref l) (putF "key" (.ref k) (putF "columns" (.ref c) f1))).length ≤ 4 := Nat.le_trans (putF_le _ _ _) (by omega)
  refine ⟨_, rfl, p, CTb K, dx, _, rfl, hp8, C0, noat_Table_text T, by omega, ?_⟩
  exact q G4 _ c k (((s6.trans s7.some_).trans s8.some_).atP g4) g4 upd_same bat
end Pf
namespace Bs
open PySem PySem.Spec PyProof.Rows L2 SX
variable {P : Program} {w : World} {K : PySem.W.Frag} {mg : Str → Option Value} {base : Heap}
/-- the defaults of key and lies -/
abbrev dK (K : PySem.W.Frag) : V := .ref (Hd.kwAt ("Table", some "__init__") "key" K)
abbrev dL (K : PySem.W.Frag) : V := .ref (Hd.kwAt ("Table", some "__init__") "lies" K)
end Bs
namespace Pf
open PySem PySem.Spec PyProof.Rows L2 Bs SX
variable {P : Program} {w : World} {K : PySem.W.Frag} {mg : Str → Option Value} {base : Heap}
theorem kws_T : d_Table_init.2.kws K = [(("key" : Str), dK K), (("lies" : Str), dL K)] := rfl

theorem kp_Table_key_lies (T : Tx K mg) : MakP P w K mg base 5 "Table" (CTb K) 2 ["key", "lies"] (fun vs zs => vs ++ zs) (spTInit K (CTb K)) := by
  obtain ⟨fd, RO, F⟩ := o_init (P := P) (w := w) (base := base) T
  obtain ⟨mv, hb⟩ := FunD.kbinds0 F 3 ["key", "lies"] [] (fun {α} (vs mv zs : List α) => vs ++ zs) (by rw [kws_T]; exact fun z => by cases z) (fun q h => by cases h) (fun r1 _ r3 => r1.append r3)
    (ps := ["self", "name", "columns", "key", "lies"]) (fun D doc pm an cdv ct us mv ws h1 h2 h3 => match us, mv, ws, h1, h2, h3 with | [_, _, _], [], [_, _], _, _, _ => rfl)
  exact ⟨_, fd, _, _, mkr_Table_ T, RO, g_Table T, hb⟩
theorem kp_Table_lies (T : Tx K mg) : MakP P w K mg base 5 "Table" (CTb K) 2 ["lies"] (fun vs zs => vs ++ ([dK K] ++ zs)) (spTInit K (CTb K)) := by
  obtain ⟨fd, RO, F⟩ := o_init (P := P) (w := w) (base := base) T
  obtain ⟨mv, hb⟩ := FunD.kbinds0 F 3 ["lies"] [("key", dK K)] (fun {α} (vs mv zs : List α) => vs ++ (mv ++ zs)) (by rw [kws_T]; exact fun z => by cases z) (fun q h => by rw [kws_T, List.mem_singleton.mp h]; exact List.mem_cons_self) (fun r1 r2 r3 => r1.append (r2.append r3))
    (ps := ["self", "name", "columns", "key", "lies"]) (fun D doc pm an cdv ct us mv ws h1 h2 h3 => match us, mv, ws, h1, h2, h3 with | [_, _, _], [_], [_], _, _, _ => ⟨_, _, _, _, _, _, rfl, rfl, rfl⟩)
  exact ⟨_, fd, _, _, mkr_Table_ T, RO, g_Table T, hb⟩
theorem kp_Table_key (T : Tx K mg) : MakP P w K mg base 5 "Table" (CTb K) 2 ["key"] (fun vs zs => vs ++ (zs ++ [dL K])) (spTInit K (CTb K)) := by
  obtain ⟨fd, RO, F⟩ := o_init (P := P) (w := w) (base := base) T
  obtain ⟨mv, hb⟩ := FunD.kbinds0 F 3 ["key"] [("lies", dL K)] (fun {α} (vs mv zs : List α) => vs ++ (zs ++ mv)) (by rw [kws_T]; exact fun z => by cases z) (fun q h => by rw [kws_T, List.mem_singleton.mp h]; exact List.mem_cons_of_mem _ List.mem_cons_self) (fun r1 r2 r3 => r1.append (r3.append r2))
    (ps := ["self", "name", "columns", "key", "lies"]) (fun D doc pm an cdv ct us mv ws h1 h2 h3 => match us, mv, ws, h1, h2, h3 with | [_, _, _], [_], [_], _, _, _ => ⟨_, _, _, _, _, _, rfl, rfl, rfl⟩)
  exact ⟨_, fd, _, _, mkr_Table_ T, RO, g_Table T, hb⟩
theorem m_Table (T : Tx K mg) : C8.Mak P w K mg base 5 "Table" (CTb K) (spTInit K (CTb K)) [dK K, dL K] := by
  obtain ⟨fd, RO, F⟩ := o_init (P := P) (w := w) (base := base) T
  obtain ⟨ds, hd, hb⟩ := FunD.binds0 F 3 (ps := ["self", "name", "columns", "key", "lies"]) (by rw [kws_T]; exact fun z => by cases z) (by rw [kws_T]; rfl)
    (fun D doc pm an cdv ct us ks h1 h2 => match us, ks, h1, h2 with | [_, _, _], [_, _], _, _ => ⟨_, _, _, _, _, _, rfl, rfl, _, _, _, _, _, _, rfl, rfl, rfl⟩)
  exact ⟨_, fd, _, ds, mkr_Table_ T, RO, g_Table T, hb, hd⟩
end Pf
/-! ### a dict put into another one: {**d, k: v}, d.update(e); calls whose keywords become a dict; dict comprehensions over lists and over a dict's keys -/
namespace Dm
open PySem PySem.Spec PyProof.Rows L2
section
variable {P : Program} {w : World} {A : Around} {E : Value → Shared → Prop} {s : Shared}
/-- one entry is put -/
theorem put_at {d : Addr} {ks : List (Key × Value)} {k : Key} {kv v : Value} {Q : Unit → Shared → Prop} (hk : (mixKind P w).is k kv = true) (hm : s.heap.DictOf (mixKind P w) d ks) (hz : ks.length ≤ sizeLine)
    (q : ∀ h', h'.DictOf (mixKind P w) d (stored ks k v) → Heap.SameBut d s.heap h' → Q () { s with heap := h' }) : wpAny (model P w) A (dictPut d ((mixKind P w).hash k) kv v) Q E s := by
  obtain ⟨o, es, ep, ho, hc, hd, hko, hp, hn⟩ := hm
  have e1 := hp.length
  have e2 : es.toList.length = es.size := Array.length_toList
  have hes : es.size ≤ sizeLine := by omega
  have ix : (es.findIdx? fun e => (mixKind P w).is k e.key) = ks.findIdx? fun p => decide (p.1 = k) := by
    rw [← hp.findIdx k]
    obtain ⟨l⟩ := es
    simp
  unfold dictPut
  refine wpAny_bind (wpAny_dictFind_of hk ho hd hko ?_)
  cases hi : es.findIdx? fun e => (mixKind P w).is k e.key with
  | some i =>
    have hany := any_of_findIdx_some (ix ▸ hi)
    have hl : (es.toList.findIdx? fun e => (mixKind P w).is k e.key) = some i := by
      rw [← hi]
      obtain ⟨l⟩ := es
      simp
    refine wpAny_updateDict ho hd (q _ ?_ (Heap.SameBut.update ..))
    have hmod := hp.modify hn hl v
    refine ⟨_, _, ep, Heap.get?_update_self _ ho (Obj.isFreed_of_dict (Obj.data_mapDict hd _)), hc.mapDict _, Obj.data_mapDict hd _, hko.modify _ _, ?_, ?_⟩
    · rw [stored, if_pos hany]
      obtain ⟨l⟩ := es
      simpa using hmod
    · rw [stored, if_pos hany, keys_map_store]
      exact hn
  | none =>
    have hnot : k ∉ ks.map (·.1) := not_mem_of_findIdx_none (ix ▸ hi)
    have hany : ¬ (ks.any fun p => decide (p.1 = k)) = true := by
      rw [List.any_eq_true]
      rintro ⟨p, hp', he⟩
      exact hnot (List.mem_map.mpr ⟨p, hp', of_decide_eq_true he⟩)
    refine wpAny_updateDictKeys (hz := hes) ho hd (q _ ?_ (Heap.SameBut.update ..))
    have happ := hp.append hk ((mixKind P w).hash k) v
    refine ⟨_, _, ep + 1, Heap.get?_update_self _ ho (Obj.isFreed_of_dict (Obj.data_mapDictKeys hd _)), hc.mapDictKeys _, Obj.data_mapDictKeys hd _, hko.push hk _, ?_, ?_⟩
    · rw [stored, if_neg hany]
      obtain ⟨l⟩ := es
      simpa using happ
    · rw [stored, if_neg hany, List.map_append, List.nodup_append]
      refine ⟨hn, by simp, fun a ha b hb => ?_⟩
      rw [List.map_cons, List.map_nil, List.mem_singleton] at hb
      rw [hb]
      exact fun e => hnot (by rw [e] at ha; exact ha)
theorem key_flat {k : Key} {v : Value} (h : (mixKind P w).is k v = true) : ∀ a, v ≠ .ref a := fun a e => by
  rcases keyIs_shape (show keyIs k v = true from h) with ⟨i, t, _, e2⟩ | ⟨x, t, _, e2⟩
  · rw [e] at e2; cases e2
  · rw [e] at e2; cases e2
theorem merge_at {d o : Addr} {ks more : List (Key × Value)} {Q : Unit → Shared → Prop} (ne : d ≠ o) (oS : (o == sysModules) = false) (hd : s.heap.DictOf (mixKind P w) d ks) (ho : s.heap.DictOf (mixKind P w) o more)
    (hz : ks.length + more.length ≤ sizeLine) (q : ∀ h', h'.DictOf (mixKind P w) d (merged ks more) → Heap.SameBut d s.heap h' → Q () { s with heap := h' }) :
    wpAny (model P w) A (mergeMapping d (.ref o) false) Q E s := by
  obtain ⟨od, esd, epd, god, cod, dod, kod, pod, nod⟩ := id hd
  obtain ⟨oo, eso, epo, goo, coo, doo, koo, poo, noo⟩ := id ho
  have hlen : more.length = eso.size := by
    rw [← poo.length, Array.length_toList]
  have loop : wpAny (model P w) A (do
      let l ← dictEntries o
      let n : Nat := l.size
      let epoch ← dictEpoch o
      forIn (List.range n) PUnit.unit fun i (_ : PUnit) => (do
        let l2 ← dictEntries o
        match l2[i]? with
        | some e => do
          holding [e.key, e.val] (dictPut d e.hash e.key e.val)
          let ep2 ← dictEpoch o
          if (ep2 != epoch) = true then do
              (unsupported "dict.changed-during-merge" : Sem PUnit)
              pure (ForInStep.yield PUnit.unit)
            else pure (ForInStep.yield PUnit.unit)
        | _ => do
          (unsupported "dict.changed-during-merge" : Sem PUnit)
          pure (ForInStep.yield PUnit.unit) : Sem (ForInStep PUnit))
      pure ()) Q E s := by
    refine wpAny_bind (wpAny_dictEntries goo doo ?_)
    dsimp only
    refine wpAny_bind (wpAny_dictEpoch goo doo (wpAny_bind ?_))
    refine wpAny_forIn_list _ (fun rest _ s' => ∃ (h' : Heap) (i : Nat), s' = { s with heap := h' } ∧ rest = List.range' i (eso.size - i) ∧ i ≤ eso.size ∧ h'.DictOf (mixKind P w) d (merged ks (more.take i)) ∧ h'.get? o = some oo ∧ Heap.SameBut d s.heap h') _ ?_ ?_ _ _
      ⟨s.heap, 0, rfl, by rw [List.range_eq_range', Nat.sub_zero], Nat.zero_le _, by rw [List.take_zero]; exact hd, goo, Heap.SameBut.refl _ _⟩
    · rintro x rest b s' ⟨h', i, rfl, hr, hi, hd', goo', sb⟩
      have hlt : i < eso.size := by
        rcases Nat.lt_or_ge i eso.size with h | h
        · exact h
        · rw [Nat.sub_eq_zero_of_le h] at hr
          cases hr
      have e1 : eso.size - i = (eso.size - (i + 1)) + 1 := by omega
      rw [e1, List.range'_succ] at hr
      obtain ⟨rfl, hrest⟩ := List.cons.inj hr
      have hm : x < more.length := by omega
      obtain ⟨hk, hv⟩ := poo.get? (e := eso[x]) (k := more[x].1) (v := more[x].2) (by simp [hlt]) (List.getElem?_eq_getElem hm)
      obtain ⟨k', hk', hh⟩ := koo eso[x] (Array.getElem_mem hlt)
      have ek : k' = more[x].1 := (mixKind P w).inj _ _ _ hk' hk
      refine wpAny_bind (wpAny_dictEntries goo' doo ?_)
      rw [Array.getElem?_eq_getElem hlt]
      show wpAny _ _ (holding [eso[x].key, eso[x].val] (dictPut d eso[x].hash eso[x].key eso[x].val) >>= _) _ _ _
      rw [hh, ek, hv]
      have z1 := merged_length_le ks (more.take x)
      have z2 : (more.take x).length ≤ more.length := by rw [List.length_take]; omega
      refine wpAny_bind (wpAny_holding (put_at hk hd' (by omega) fun h2 hd2 sb2 => ?_))
      have goo2 : h2.get? o = some oo := (sb2.2 o (Ne.symm ne)).trans goo'
      refine wpAny_bind (wpAny_dictEpoch goo2 doo ?_)
      rw [if_neg (by simp)]
      exact wpAny_pure ⟨h2, x + 1, rfl, hrest, hlt, by rw [merged_take_succ ks more x _ (List.getElem?_eq_getElem hm)]; exact hd2, goo2, sb.trans sb2⟩
    · rintro b s' ⟨h', i, rfl, hr, hi, hd', goo', sb⟩
      have hin : i = eso.size := by
        rcases Nat.lt_or_ge i eso.size with h | h
        · have e1 : eso.size - i = (eso.size - (i + 1)) + 1 := by omega
          rw [e1, List.range'_succ] at hr
          cases hr
        · omega
      rw [hin, ← hlen, List.take_length] at hd'
      exact wpAny_pure (q h' hd' sb)
  unfold mergeMapping
  refine wpAny_bind (wpAny_isInstance ho.typeIs isSubtype_dict_dict ?_)
  rw [if_pos rfl]
  refine wpAny_bind (wpAny_specialOf ho.typeIs PySem.F.slot_dict_iter.lookup (wpAny_bind (wpAny_pure ?_)))
  rw [show (some (Value.builtin "dict.__iter__") == some (Value.builtin "dict.__iter__")) = true from by decide]
  dsimp only
  rw [if_neg (by rw [oS]; exact Bool.false_ne_true)]
  refine wpAny_bind (wpAny_dictEntries god dod ?_)
  split
  · refine wpAny_bind (wpAny_dictEntries goo doo (wpAny_bind ?_))
    rw [← Array.forIn_toList]
    refine wpAny_forIn_list _ (fun rest _ s' => s' = s ∧ ∀ e ∈ rest, ∀ a, e.key ≠ .ref a) _ ?_ ?_ _ _ ⟨rfl, fun e he => ?_⟩
    · rintro e rest b s' ⟨rfl, hr⟩
      have h0 := hr e List.mem_cons_self
      cases hk : e.key with
      | ref a => exact absurd hk (h0 a)
      | _ => exact wpAny_pure ⟨rfl, fun e' he' => hr e' (List.mem_cons_of_mem _ he')⟩
    · rintro b s' ⟨rfl, _⟩
      exact loop
    · obtain ⟨k', hk', _⟩ := koo e (Array.mem_toList_iff.mp he)
      exact key_flat hk'
  · exact loop
end
end Dm
namespace Dm
open PySem PySem.Spec PyProof.Rows L2
section
variable {X : Cx} {pos : Pos} {e k v : Expr} {te tk tv : TE}
theorem there_of {P : Program} {w : World} {h : Heap} {d : Addr} {vs : List (Key × Value)} (dd : h.DictOf (mixKind P w) d vs) : ∃ q, h.get? d = some q := let ⟨q, _, _, hq, _⟩ := dd; ⟨q, hq⟩
/-- all of the tracked dict o goes into the tracked dict d -/
theorem merge_inv {pins : List (Addr × Obj)} {σ : L2.St} {H : Hp} {s : Shared} {A : Around} {E : Value → Shared → Prop} {d o : Addr} {ks more : List (Key × V)} {Q : Unit → Shared → Prop} (I : Inv X pins σ H s) (hd : H d = some (.dK ks)) (ho : H o = some (.dK more)) (ne : d ≠ o) (hz : ks.length + more.length ≤ sizeLine)
    (q : ∀ s', Inv X pins σ (upd H d (.dK (mergeK ks more))) s' → Q () s') : wpAny (model X.prog X.w) A (mergeMapping d (.ref o) false) Q E s := by
  obtain ⟨z1, n1, vs1, r1, d1⟩ := dk_of I.hok hd
  obtain ⟨z2, n2, vs2, r2, d2⟩ := dk_of I.hok ho
  have l1 : ks.length = vs1.length := r1.length
  have l2 : more.length = vs2.length := r2.length
  refine merge_at ne n2 d1 d2 (by omega) fun h' dd sb => q _ ?_
  have lm := length_mergeK more ks
  exact d_write I (by rw [hd]; exact True.intro) sb (there_of dd) (dk_new (by omega) n1 (r2.merge r1) dd)
def tDs (te tk tv : TE) : TE := fun σ H Q => ∀ d, H d = none → te σ (upd H d (.dK [])) fun x H1 => ∃ o kvs, x = .ref o ∧ H1 d = some (.dK []) ∧ H1 o = some (.dK kvs) ∧ d ≠ o ∧ kvs.length ≤ 1000 ∧
  ∀ b, H1 b = none → tPairs [(tk, tv)] σ (upd (upd H1 d (.dK (mergeK [] kvs))) b (.dK [])) fun ps H2 => ∃ key z, ps = [(kV key, z)] ∧ H2 b = some (.dK []) ∧ H2 d = some (.dK (mergeK [] kvs)) ∧ Q (.ref d) (upd (upd H2 b (.dK [(key, z)])) d (.dK (putK (mergeK [] kvs) key z)))
/-- {**e, k: v} -/
theorem pe_ds (he : PE X e te) (hk : PE X k tk) (hv : PE X v tv) : PE X (.Dict [none, some k] [e, v] pos) (tDs te tk tv) := by
  refine ⟨fun pins s σ H Q I q => ?_⟩
  have hpp := pps_cons (pos := pos) hk hv pps_nil
  rw [arm_eval_Dict]
  refine wpAny_bind (wpAny_standAt ?_)
  show wpAny _ _ (dictDisplay [(none, do let x ← eval e X.env; standAt pos; pure x), (some (eval k X.env), do let x ← eval v X.env; standAt pos; pure x)]) _ _ s
  unfold dictDisplay
  simp only [List.forIn_cons, List.forIn_nil, List.isEmpty_nil, if_true, pure_bind, bind_assoc]
  have hn := I.hok.fresh (Nat.le_refl s.heap.objs.size)
  have I1 := I.laid (a := s.heap.objs.size) (o := .dK []) (h' := s.heap.push { cls := .type "dict", data := .dict #[] }) (t' := s.toks) (fun _ _ q => Heap.get?_push_of_some _ q) (Nat.le_refl _) (dk_empty s.heap I.big)
  refine wpAny_bind (wpAny_alloc ?_)
  refine wpAny_bind (wpAny_holding (wpAny_bind (thn (he.run pins _ σ _ _ I1 (q _ hn)) fun u s1 ⟨x, H1, I2, rx, o, kvs, ex, hd, ho, ne, hz, q2⟩ => wpAny_bind (wpAny_standAt (wpAny_pure ?_)))))
  subst ex
  obtain rfl : u = Value.ref o := rx
  refine wpAny_bind (wpAny_onRaise (wpAny_tryCatch (wpAny_onRaise (wpAny_holding (merge_inv I2 hd ho ne (by rw [List.length_nil, sizeLine_eq]; omega) fun s2 I3 => ?_)))))
  rw [if_neg (by simp)]
  refine wpAny_bind (wpAny_pure ?_)
  dsimp only
  refine wpAny_bind (wpAny_pure ?_)
  dsimp only
  rw [if_neg (by simp)]
  have hb := I3.hok.fresh (Nat.le_refl s2.heap.objs.size)
  have hb1 : H1 s2.heap.objs.size = none := by
    by_cases c : s2.heap.objs.size = s.heap.objs.size
    · rw [c, upd_same] at hb
      cases hb
    · rw [upd_ne c] at hb
      exact hb
  have I4 := I3.laid (a := s2.heap.objs.size) (o := .dK []) (h' := s2.heap.push { cls := .type "dict", data := .dict #[] }) (t' := s2.toks) (fun _ _ q => Heap.get?_push_of_some _ q) (Nat.le_refl _) (dk_empty s2.heap I3.big)
  refine wpAny_bind (wpAny_bind (wpAny_holding (wpAny_subDict (knd := mixKind X.prog X.w) (by simp) ?_)))
  refine thn (hpp.run pins _ σ _ _ I4 (q2 _ hb1)) fun ws s3 ⟨ps, H3, I5, rel, q3⟩ => ?_
  obtain ⟨key, z, rfl, hb3, hd3, q4⟩ := q3
  obtain ⟨rs, c, rk⟩ := carries_of (P := X.prog) (w := X.w) (kvs := [(key, z)]) rel
  obtain ⟨_, nb, vs0, r0, dd⟩ := dk_of I5.hok hb3
  cases r0
  refine ⟨rs, c, dd, fun h' dd' sb => ?_⟩
  have I6 : Inv X pins σ (upd H3 s2.heap.objs.size (.dK [(key, z)])) { s3 with heap := h', toks := s3.toks + ws.length } :=
    d_write I5 (by rw [hb3]; exact True.intro) sb (there_of dd') (dk_new (by show 1 ≤ sizeLine; decide) nb (KV.merge rk .nil) dd')
  have nbd : s.heap.objs.size ≠ s2.heap.objs.size := fun e => by
    rw [← e, hd] at hb1
    cases hb1
  have lm := length_mergeK kvs []
  rw [List.length_nil] at lm
  refine wpAny_bind (wpAny_onRaise (wpAny_holding (merge_inv I6 (by rw [upd_ne nbd]; exact hd3) upd_same nbd (by rw [List.length_singleton, sizeLine_eq]; omega) fun s4 I7 => wpAny_bind (wpAny_pure ?_))))
  exact wpAny_pure (wpAny_pure ⟨.ref s.heap.objs.size, _, I7, rfl, q4⟩)
/-- d.update(e), both tracked dicts -/
def rDUpd : V → List V → Hp → VK → Prop := fun x vs H Q => ∃ d o ks more, x = .ref d ∧ vs = [.ref o] ∧ H d = some (.dK ks) ∧ H o = some (.dK more) ∧ d ≠ o ∧ ks.length + more.length ≤ sizeLine ∧ Q .non (upd H d (.dK (mergeK ks more)))
theorem mt_dupd : MtR X "dict.update" rDUpd := by
  intro pins s σ H x vs v us Q I rx rxs h
  obtain ⟨d, o, ks, more, rfl, rfl, hd, ho, ne, hz, q⟩ := h
  obtain rfl : v = Value.ref d := rx
  obtain rfl : us = [Value.ref o] := Vals.ref1 rxs
  obtain ⟨z1, n1, vs1, r1, d1⟩ := dk_of I.hok hd
  obtain ⟨z2, n2, vs2, r2, d2⟩ := dk_of I.hok ho
  have l1 : ks.length = vs1.length := r1.length
  have l2 : more.length = vs2.length := r2.length
  have lm := length_mergeK more ks
  refine call_meetsIn PySem.F.slot_dict_update d1.typeIs PySem.F.entry_dict_update (PySem.F.args_dict_update_2 _ _) (meets_dict_update (mixKind X.prog X.w) d o ne n2) ⟨vs1, vs2, d1, d2, by omega, fun h' dd _ sb => ?_⟩
  exact ⟨.non, _, d_write I (by rw [hd]; exact True.intro) sb (there_of dd) (dk_new (by omega) n1 (r2.merge r1) dd), rfl, q⟩
end
end Dm
namespace Dm
open PySem PySem.Spec PyProof.Rows L2
section
variable {P : Program} {w : World} {A : Around} {E : Value → Shared → Prop} {s : Shared}
theorem pair_key : ∀ {es : List DictEntry} {ks : List (Key × Value)}, Pairs (mixKind P w) es ks → ∀ e ∈ es, ∃ p ∈ ks, (mixKind P w).is p.1 e.key = true
  | _, _, .nil, _, h => nomatch h
  | _, _, .cons h1 _ t, e, h => by
    rcases List.mem_cons.mp h with rfl | h
    · exact ⟨_, List.mem_cons_self, h1⟩
    · obtain ⟨p, hp, q⟩ := pair_key t e h
      exact ⟨p, List.mem_cons_of_mem _ hp, q⟩
/-- one keyword is laid -/
theorem kw_at {d : Addr} {ks : List (Key × Value)} {x : Str} {v : Value} {Q : Unit → Shared → Prop} (hm : s.heap.DictOf (mixKind P w) d ks) (hn : Sum.inr x ∉ ks.map (·.1))
    (q : ∀ h' t', h'.DictOf (mixKind P w) d (ks ++ [(Sum.inr x, v)]) → Heap.SameBut d s.heap h' → Q () { s with heap := h', toks := t' }) : wpAny (model P w) A (nsSet d x v) Q E s := by
  obtain ⟨o, es, ep, ho, hc, hd, hko, hp, nd⟩ := hm
  obtain ⟨oc, od, dt, sl⟩ := o
  obtain ⟨c1, c2, c3⟩ := hc
  simp only at c1 c2 c3 hd
  subst c1 c2 c3 hd
  have noS : ∀ e ∈ es.toList, e.key.isStr x = false ∧ e.refKey = false := fun e he => by
    obtain ⟨p, hp', hk⟩ := pair_key hp e he
    rcases keyIs_shape (show keyIs p.1 e.key = true from hk) with ⟨i, t, e1, e2⟩ | ⟨y, t, e1, e2⟩
    · unfold DictEntry.refKey
      rw [e2]
      exact ⟨rfl, rfl⟩
    · unfold DictEntry.refKey
      rw [e2]
      refine ⟨?_, rfl⟩
      show (y == x) = false
      refine beq_eq_false_iff_ne.mpr fun z => hn (List.mem_map.mpr ⟨p, hp', ?_⟩)
      rw [e1, z]
  have a1 : es.toList.any (·.key.isStr x) = false := by
    rw [List.any_eq_false]
    exact fun e he => by rw [(noS e he).1]; exact Bool.false_ne_true
  have a2 : es.toList.any (·.refKey) = false := by
    rw [List.any_eq_false]
    exact fun e he => by rw [(noS e he).2]; exact Bool.false_ne_true
  have eo : ({ cls := .type "dict", dict := none, data := .dict es ep, slots := #[] } : Obj) = PySem.W.dictOf es.toList ep := rfl
  rw [eo] at ho
  unfold nsSet
  refine wpAny_bind (wpAny_bind (wpAny_askSetting (wpAny_pure (wpAny_bind (wpAny_mkText (wpAny_bind (wpAny_loadPart ho ?_)))))))
  dsimp only
  have c : aRefKeyMayBeTheName x es.toList.toArray = false := by
    rw [aRefKeyMayBeTheName_at, ← Array.any_toList, ← Array.any_toList]
    show (!es.toList.any (·.key.isStr x) && es.toList.any (·.refKey)) = false
    rw [a2, Bool.and_false]
  rw [c]
  show wpAny _ _ (updatePart d (some (.str x 0)) (Obj.putName x (PyData.keyHash w.params x) (.str x s.toks) v)) _ _ _
  have up := PySem.W.putName_dict x (PyData.keyHash w.params x) (.str x s.toks) v es.toList ep
  have pn : PySem.W.putN x es.toList ep = ep + 1 := by
    unfold PySem.W.putN
    rw [a1]
    rfl
  rw [PySem.W.putL_new fun e he => (noS e he).1, pn] at up
  refine wpAny_updatePart ho (q (s.heap.update d (Obj.putName x (PyData.keyHash w.params x) (.str x s.toks) v)) (s.toks + 1) ?_ (Heap.SameBut.update ..))
  refine ⟨_, (es.toList ++ ([⟨PyData.keyHash w.params x, .str x s.toks, v⟩] : List DictEntry)).toArray, ep + 1, (Heap.get?_update_self _ ho (by rw [up]; rfl)).trans (by rw [up]), ⟨rfl, rfl, rfl⟩, rfl, ?_, ?_, ?_⟩
  · intro e he
    rw [List.mem_toArray, List.mem_append, List.mem_singleton] at he
    rcases he with he | rfl
    · exact hko e (Array.mem_toList_iff.mp he)
    · exact ⟨Sum.inr x, by show keyIs (Sum.inr x) (Value.str x s.toks) = true; exact by simp [keyIs, Value.isStrOf], rfl⟩
  · exact hp.append (by show keyIs (Sum.inr x) (Value.str x s.toks) = true; simp [keyIs, Value.isStrOf]) _ _
  · rw [List.map_append, List.nodup_append]
    refine ⟨nd, by simp, fun a ha b hb => ?_⟩
    rw [List.map_cons, List.map_nil, List.mem_singleton] at hb
    rw [hb]
    exact fun e => hn (by rw [e] at ha; exact ha)
theorem kws_at {d : Addr} {Q : PUnit → Shared → Prop} : ∀ (ex : List (Str × Value)) (s : Shared) (ks : List (Key × Value)), s.heap.DictOf (mixKind P w) d ks → (ex.map (·.1)).Nodup → (∀ p ∈ ex, Sum.inr p.1 ∉ ks.map (·.1)) →
    (∀ h' t', h'.DictOf (mixKind P w) d (ks ++ ex.map fun p => (Sum.inr p.1, p.2)) → Heap.SameBut d s.heap h' → Q ⟨⟩ { s with heap := h', toks := t' }) →
    wpAny (model P w) A (forIn ex PUnit.unit fun x _ => (nsSet d x.1 x.2 >>= fun _ => pure (ForInStep.yield PUnit.unit))) Q E s
  | [], s, ks, hm, _, _, q => by
    rw [List.forIn_nil]
    rw [List.map_nil, List.append_nil] at q
    exact wpAny_pure (q s.heap s.toks hm (Heap.SameBut.refl ..))
  | x :: r, s, ks, hm, nd, hn, q => by
    obtain ⟨n1, n2⟩ := List.nodup_cons.mp (show (x.1 :: r.map (·.1)).Nodup from nd)
    rw [List.forIn_cons]
    refine wpAny_bind (wpAny_bind (kw_at hm (hn x List.mem_cons_self) fun h' t' hm' sb => wpAny_pure ?_))
    refine kws_at r _ (ks ++ [(Sum.inr x.1, x.2)]) hm' n2 (fun p hp => ?_) fun h2 t2 hm2 sb2 => ?_
    · rw [List.map_append, List.mem_append, not_or]
      refine ⟨hn p (List.mem_cons_of_mem _ hp), ?_⟩
      rw [List.map_cons, List.map_nil, List.mem_singleton]
      exact fun e => n1 (by rw [← Sum.inr.inj e]; exact List.mem_map_of_mem hp)
    · rw [List.append_assoc] at hm2
      exact q h2 t2 hm2 (sb.trans sb2)
end
theorem env0_more {P : Program} {w : World} {K : PySem.W.Frag} {mg : Str → Option Value} {base : Heap} {A : Around} {outer : List Env} {s : Shared} {H : Hp} {h' : Heap} {t' : Nat} {a : Addr} {u : HO} (e0 : Env0 P w K mg base A outer s H) (kp : ∀ b x, s.heap.get? b = some x → h'.get? b = some x)
    (hz : s.heap.objs.size ≤ h'.objs.size) (ha : s.heap.objs.size ≤ a) (new : ObjOk P w (upd H a u) h' a u) : Env0 P w K mg base A outer { s with heap := h', toks := t' } (upd H a u) := by
  have nb : ∀ {b : Addr} {x : Obj}, s.heap.get? b = some x → b ≠ a := fun e => Nat.ne_of_lt (Nat.lt_of_lt_of_le (Heap.lt_size e) ha)
  refine ⟨e0.frames, e0.mod, fun b x e => ⟨kp b x (e0.bs b x e).1, ?_⟩, Nat.le_trans e0.bsz hz, Heap.FunFrames.of_keeps (fun b x e _ => ⟨x, kp b x e, rfl⟩) e0.funs, fun b hb => ?_, e0.hok.laid kp ha new, e0.bare⟩
  · rw [upd_ne (nb (e0.bs b x e).1)]
    exact (e0.bs b x e).2
  · obtain ⟨_, x, hx, _⟩ := e0.funs.mem hb
    rw [upd_ne (nb hx)]
    exact e0.frf b hb
/-- def m(self, *v, **d), called with keywords: the rest is a new tuple, the keywords a new dict -/
def FnW (P : Program) (w : World) (K : PySem.W.Frag) (mg : Str → Option Value) (base : Heap) (CX : CXT) (k : Nat) (f : Addr) (sp : Sp) (ks : List Str) : Prop :=
  ∀ (A : Around) (outer : List Env) (s : Shared) (H : Hp) (u : Value) (us ws : List Value) (x : V) (vs zs : List V) (Q : VK) (E : XK), Room k A → Env0 P w K mg base A outer s H → RelV x u → Vals vs us → Vals zs ws → zs.length = ks.length → vs.length ≤ sizeLine →
    (∀ p d, H p = none → H d = none → d ≠ p → sp [x, .ref p, .ref d] (upd (upd H p (.tup vs)) d (.dK ((ks.zip zs).map fun q => (Sum.inr q.1, q.2)))) Q E) → codeAny (model P w) A (.call (.ref f) ⟨u :: us, ks.zip ws⟩) (CR CX outer P w H s Q E) s
theorem kv_zip : ∀ {ks : List Str} {zs : List V} {ws : List Value}, Vals zs ws → zs.length = ks.length → KV ((ks.zip zs).map fun q => ((Sum.inr q.1 : Key), q.2)) ((ks.zip ws).map fun p => ((Sum.inr p.1 : Key), p.2))
  | [], _, _, _, _ => .nil
  | k :: ks, [], _, _, h => by cases h
  | k :: ks, z :: zs, _, .cons r t, h => .cons ⟨rfl, r⟩ (kv_zip t (Nat.succ.inj h))
theorem zip_keys : ∀ {ks : List Str} {ws : List Value}, ws.length = ks.length → (ks.zip ws).map (·.1) = ks
  | [], _, _ => rfl
  | k :: ks, [], h => by cases h
  | k :: ks, w :: ws, h => by rw [List.zip_cons_cons, List.map_cons, zip_keys (Nat.succ.inj h)]
section
variable {CX : CXT} {P : Program} {w : World} {K : PySem.W.Frag} {mg : Str → Option Value} {base : Heap} {k : Nat} {f : Addr} {name qual : Str} {params : Arguments} {body : List Stmt} {scope : Scope} {dV kV doc pm cdv ct oc : Value} {an od : Option Addr}
  {osl : Array (Option Value)} {N : List Str} {sp : Sp} {p0 pv pd : Str} {ks : List Str}
theorem fn_kw (lk : K.lookup f = some ⟨oc, od, .func (PySem.W.fnOf name qual params body scope dV kV doc pm an cdv ct), osl⟩) (hcd : PySem.W.codeIn K cdv qual = true) (S : FnScope N [p0, pv, pd] scope) (hCX : StX.CXUp CX) (nd : ks.Nodup) (hl : ks.length ≤ 1000)
    (hb : ∀ (u : Value) (us ws : List Value), ws.length = ks.length → bindArgs (PySem.W.fnOf name qual params body scope dV kV doc pm an cdv ct) ⟨u :: us, ks.zip ws⟩ =
      (newTuple us >>= fun t => (alloc ({ cls := .type "dict", data := .dict #[] } : Obj) : Sem Addr) >>= fun d => (forIn (ks.zip ws) PUnit.unit fun x _ => (nsSet d x.1 x.2 >>= fun _ => pure (ForInStep.yield PUnit.unit))) >>= fun _ => pure [(p0, u), (pv, t), (pd, Value.ref d)]))
    (hbody : ∀ (A : Around) (outer : List Env) (s : Shared) (H : Hp) (vs : List V) (Q : VK) (E : XK), Room k (A.deeper (envOfC qual scope s.heap.objs.size f cdv)) → sp vs H Q E →
      ∃ t, PSs (cxOf CX P w K mg base N qual scope f cdv A outer s H E) body t ∧ t { nx := fun _ H' => Q .non H', rt := Q } (start N vs) H) : FnW P w K mg base CX (k + 1) f sp ks := by
  intro A outer s H u us ws x vs zs Q E hr e0 rx r rz hz hv hsp
  have hn : H s.heap.objs.size = none := e0.hok.fresh (Nat.le_refl _)
  have hlw : ws.length = ks.length := rz.length.symm.trans hz
  have hlu : us.length ≤ sizeLine := by rw [← r.length]; exact hv
  refine StX.run_bnd (ps := [p0, pv, pd]) lk hcd S hr e0 (G := fun ys H2 => ∃ p d, H p = none ∧ H d = none ∧ d ≠ p ∧ ys = [x, .ref p, .ref d] ∧ H2 = upd (upd H p (.tup vs)) d (.dK ((ks.zip zs).map fun q => (Sum.inr q.1, q.2)))) (fun A' Ex Q' h => ?_) fun s2 H2 ys ⟨p, d, hp, hd, hne, ey, eH⟩ hr' => ?_
  · rw [hb u us ws hlw]
    refine wpAny_bind (wpAny_newTuple (wpAny_bind (wpAny_alloc (wpAny_bind ?_))) hlu)
    have new : ObjOk P w (upd H s.heap.objs.size (.tup vs)) (s.heap.push ({ cls := .type "tuple", data := .seq us.toArray } : Obj)) s.heap.objs.size (.tup vs) := ⟨hv, us, r, ⟨_, Heap.get?_push_size _ rfl, rfl, _, rfl⟩⟩
    have e1 := StX.env0_laid e0 new
    have un1 := StX.un_laid (fs := frs outer) (s := s) (o := ({ cls := .type "tuple", data := .seq us.toArray } : Obj)) (u := .tup vs) hn
    have sz : (s.heap.push ({ cls := .type "tuple", data := .seq us.toArray } : Obj)).objs.size = s.heap.objs.size + 1 := Heap.size_push _ _
    have ne : (s.heap.push ({ cls := .type "tuple", data := .seq us.toArray } : Obj)).objs.size ≠ s.heap.objs.size := by
      rw [sz]
      exact Nat.succ_ne_self _
    have hd : H (s.heap.push ({ cls := .type "tuple", data := .seq us.toArray } : Obj)).objs.size = none := e0.hok.fresh (by rw [sz]; exact Nat.le_succ _)
    have hd2 : (upd H s.heap.objs.size (.tup vs)) (s.heap.push ({ cls := .type "tuple", data := .seq us.toArray } : Obj)).objs.size = none := by rw [upd_ne ne]; exact hd
    have big : sysModules < (s.heap.push ({ cls := .type "tuple", data := .seq us.toArray } : Obj)).objs.size := StX.env0_big e1
    refine kws_at (ks.zip ws) _ [] (Heap.DictOf.new _) (by rw [zip_keys hlw]; exact nd) (fun _ _ h => nomatch h) fun h' t' hm sb => wpAny_pure ?_
    rw [List.nil_append] at hm
    have kp : ∀ b o, (s.heap.push ({ cls := .type "tuple", data := .seq us.toArray } : Obj)).get? b = some o → h'.get? b = some o := fun b o e => (sb.2 b (Nat.ne_of_lt (Heap.lt_size e))).trans (Heap.get?_push_of_some _ e)
    obtain ⟨od', hod'⟩ := there_of hm
    have hz' : (s.heap.push ({ cls := .type "tuple", data := .seq us.toArray } : Obj)).objs.size ≤ h'.objs.size := Nat.le_of_lt (Heap.lt_size hod')
    have lz : ((ks.zip zs).map fun q => ((Sum.inr q.1 : Key), q.2)).length ≤ sizeLine := by
      rw [List.length_map, List.length_zip, sizeLine_eq]
      omega
    have new2 := dk_new (H' := upd (upd H s.heap.objs.size (.tup vs)) (s.heap.push ({ cls := .type "tuple", data := .seq us.toArray } : Obj)).objs.size (.dK ((ks.zip zs).map fun q => (Sum.inr q.1, q.2)))) lz (beq_eq_false_iff_ne.mpr (Ne.symm (Nat.ne_of_lt big))) (kv_zip rz hz) hm
    have e2 := env0_more (t' := t') e1 kp hz' (Nat.le_refl _) new2
    have un2 := un1.trans (Un.laid (fs := frs outer) (ex := []) (o := .dK ((ks.zip zs).map fun q => (Sum.inr q.1, q.2))) kp (Nat.le_refl _) hd2)
    exact h _ _ [x, V.ref s.heap.objs.size, V.ref (s.heap.push ({ cls := .type "tuple", data := .seq us.toArray } : Obj)).objs.size] [u, Value.ref s.heap.objs.size, Value.ref (s.heap.push ({ cls := .type "tuple", data := .seq us.toArray } : Obj)).objs.size] e2 un2 rfl
      (fun e s' => hCX outer s H _ _ E e s' un2 (fun b o q => kp b o (Heap.get?_push_of_some _ q)) rfl) (.cons rx (.cons rfl (.cons rfl .nil))) rfl ⟨_, _, hn, hd, ne, rfl, rfl⟩
  · subst ey eH
    exact hbody A outer s2 _ _ Q E hr' (hsp p d hp hd hne)
end
end Dm
namespace Dm
open PySem PySem.Spec PyProof.Rows L2
/-- o.m(e, .., k = v, ..), m with a star and two stars -/
structure MetW (P : Program) (w : World) (K : PySem.W.Frag) (mg : Str → Option Value) (base : Heap) (k : Nat) (C : Addr) (m : Str) (sp : Sp) (ks : List Str) : Prop where
  ex : ∃ f : Addr, Cls K C ∧ Meth K C m f ∧ FnW P w K mg base C8.CX0 k f sp ks
def tMethW (C : Addr) (m : Str) (sp : Sp) (ks : List Str) (ta : TE) (t tk : TA) : TE := fun σ H Q => ta σ H fun x H1 => ∃ a dx fs, x = .ref a ∧ H1 a = some (.ins C dx fs) ∧ fs.lookup m = none ∧ t σ H1 fun vs H2 => tk σ H2 fun zs H3 => zs.length = ks.length ∧ vs.length ≤ sizeLine ∧
  ∀ p d, H3 p = none → H3 d = none → d ≠ p → sp [x, .ref p, .ref d] (upd (upd H3 p (.tup vs)) d (.dK ((ks.zip zs).map fun q => (Sum.inr q.1, q.2)))) Q C8.E0
section
variable {X : Cx} {k j : Nat} {C : Addr} {m : Str} {sp : Sp} {ks : List Str} {o e : Expr} {es : List Expr} {kws : List Keyword} {ta : TE} {t tk : TA} {apos pos : Pos}
theorem run_fnW {pins : List (Addr × Obj)} {σ : L2.St} {H : Hp} {s : Shared} {f : Addr} {Q : VK} {u : Value} {us ws : List Value} {x : V} {vs zs : List V} (F : FnW X.prog X.w X.K X.mg X.base C8.CX0 k f sp ks) (hr : Room k X.A) (I : Inv X pins σ H s) (rx : RelV x u) (r : Vals vs us) (rz : Vals zs ws) (hz : zs.length = ks.length) (hv : vs.length ≤ sizeLine)
    (h : ∀ p d, H p = none → H d = none → d ≠ p → sp [x, .ref p, .ref d] (upd (upd H p (.tup vs)) d (.dK ((ks.zip zs).map fun q => (Sum.inr q.1, q.2)))) Q C8.E0) :
    wpAny (model X.prog X.w) X.A (call (.ref f) (u :: us) (ks.zip ws)) (EP X pins σ Q) X.xe s := by
  refine wpAny_call (codeAny_mono (F X.A X.stack s H u us ws x vs zs Q C8.E0 hr I.env0 rx r rz hz hv h) fun r s' hq => ?_)
  cases r with
  | error er => exact (C8.pass0 (E := C8.E0)) pins σ H s er s' I hq
  | ok fl =>
    cases fl with
    | ret v => exact I.after hq
    | next => exact False.elim hq
    | brk => exact False.elim hq
    | cont => exact False.elim hq
theorem pe_mtw {pl : Sem Bool} (c : MetW X.prog X.w X.K X.mg X.base k C m sp ks) (hr : Room j X.A) (hk : k ≤ j) (he : PE X o ta) (ha : PA X (e :: es) t) (hkw : PK X kws tk)
    (hall : (backToKw pos (keywordEach kws X.env)).all (·.1.isSome) = true := by rfl) (hks : (backToKw pos (keywordEach kws X.env)).filterMap (·.1) = ks := by rfl)
    (hst : starEach (e :: es) X.env = (false, eval e X.env) :: starEach es X.env := by rfl) (hpl : ((backTo pos (starEach (e :: es) X.env)).any (·.1) || (backToKw pos (keywordEach kws X.env)).any (·.1.isNone)) = false := by rfl)
    (ht : eval (.Call (.Attribute o m apos) (e :: es) kws pos) X.env = (do
      let ov ← eval o X.env
      standAt apos.atName
      let (f, first) ← holding [ov] (getMethod ov m pl)
      callWith pos f first (backTo pos (starEach (e :: es) X.env)) (backToKw pos (keywordEach kws X.env))) := by rfl) : PE X (.Call (.Attribute o m apos) (e :: es) kws pos) (tMethW C m sp ks ta t tk) := by
  obtain ⟨f, c1, hm, F⟩ := c.ex
  refine ⟨fun pins s σ H Q I h => ?_⟩
  refine PySem.W.methodCall_KW (pl := pl) (thn (he.run pins s σ H _ I h) fun u s1 ⟨x, H1, I1, rx, a, dx, fs, ex, ea, l, q⟩ => ?_) ht
  subst ex
  obtain rfl : u = Value.ref a := rx
  refine getmeth_ok I1 ea c1 hm l ?_
  refine PySem.W.callWith_KW (first := [.ref a]) (h₀ := X.base) I.ok.mod.kin hm.kp hall (thn (ha.run pos pins s1 σ H1 _ I1 q) fun us s2 ⟨vs, H2, I2, r, q2⟩ => thn (hkw.run pos pins s2 σ H2 _ I2 q2) fun ws s3 ⟨zs, H3, I3, rz, hz, hv, q3⟩ => ⟨I3.kIn, ?_⟩) hpl hst
  rw [hks]
  exact run_fnW (x := .ref a) F (hr.mono hk) I3 rfl r rz hz hv q3
theorem pe_mtw0 {pl : Sem Bool} (c : MetW X.prog X.w X.K X.mg X.base k C m sp ks) (hr : Room j X.A) (hk : k ≤ j) (he : PE X o ta) (hkw : PK X kws tk)
    (hall : (backToKw pos (keywordEach kws X.env)).all (·.1.isSome) = true := by rfl) (hks : (backToKw pos (keywordEach kws X.env)).filterMap (·.1) = ks := by rfl)
    (hpl : ((backTo pos (starEach [] X.env)).any (·.1) || (backToKw pos (keywordEach kws X.env)).any (·.1.isNone)) = false := by rfl)
    (ht : eval (.Call (.Attribute o m apos) [] kws pos) X.env = (do
      let ov ← eval o X.env
      standAt apos.atName
      let (f, first) ← holding [ov] (getMethod ov m pl)
      callWith pos f first (backTo pos (starEach [] X.env)) (backToKw pos (keywordEach kws X.env))) := by rfl) : PE X (.Call (.Attribute o m apos) [] kws pos) (tMethW C m sp ks ta tNil tk) := by
  obtain ⟨f, c1, hm, F⟩ := c.ex
  refine ⟨fun pins s σ H Q I h => ?_⟩
  refine PySem.W.methodCall_KW (pl := pl) (thn (he.run pins s σ H _ I h) fun u s1 ⟨x, H1, I1, rx, a, dx, fs, ex, ea, l, q⟩ => ?_) ht
  subst ex
  obtain rfl : u = Value.ref a := rx
  refine getmeth_ok I1 ea c1 hm l ?_
  refine PySem.W.callWith_KW0 (first := [.ref a]) (h₀ := X.base) I.ok.mod.kin hm.kp hall (thn (hkw.run pos pins s1 σ H1 _ I1 q) fun ws s3 ⟨zs, H3, I3, rz, hz, hv, q3⟩ => ⟨I3.kIn, ?_⟩) hpl
  rw [hks]
  exact run_fnW (us := []) (vs := []) (x := .ref a) F (hr.mono hk) I3 rfl .nil rz hz hv q3
/-- over a list that stays -/
theorem dc_list {K : PySem.W.Frag} {a : Addr} {xs : List V} {g : TG} {tt : TT} {tk tv : TE} {vs : List Nat} {σ : L2.St} {H1 : Hp} {D : Addr} {Qd : Hp → Prop} (Pv : Nat → Hp → Prop) (h0 : Pv 0 (upd H1 D (.dK []))) (hl : ∀ i H, i ≤ xs.length → Pv i H → SqL K H a xs)
    (hs : ∀ i x H, xs[i]? = some x → Pv i H → g x (wipe σ vs) H fun σ2 H2 => wipe σ2 vs = wipe σ vs ∧ tt σ2 H2 fun b H3 =>
      if b = true then tk σ2 H3 fun y H4 => tv σ2 H4 fun z H5 => ∃ kvs k, y = kV k ∧ H5 D = some (.dK kvs) ∧ kvs.length < sizeLine ∧ Pv (i + 1) (upd H5 D (.dK (putK kvs k z))) else Pv (i + 1) H3) (hd : ∀ H, Pv xs.length H → Qd H) :
    ∃ W : Nat → Nat → Hp → Prop, (∃ m, W 0 m (upd H1 D (.dK []))) ∧ ∀ i m H, W i m H →
      ((Itl K a).stop i H ∧ Qd H) ∨ ((Itl K a).go i H ∧ ∃ Nx : Hp → Prop, (∀ H', Nx H' → ∃ m', m' < m ∧ W (i + 1) m' H') ∧ ∀ x H', (Itl K a).yld i H x H' → g x (wipe σ vs) H' fun σ2 H2 => wipe σ2 vs = wipe σ vs ∧ tt σ2 H2 fun b H3 =>
        if b = true then tk σ2 H3 fun y H4 => tv σ2 H4 fun z H5 => ∃ kvs k, y = kV k ∧ H5 D = some (.dK kvs) ∧ kvs.length < sizeLine ∧ Nx (upd H5 D (.dK (putK kvs k z))) else Nx H3) := by
  refine ⟨fun i m H => m + i = xs.length ∧ Pv i H, ⟨xs.length, by omega, h0⟩, fun i m H ⟨em, p⟩ => ?_⟩
  have q := hl i H (by omega) p
  cases m with
  | zero =>
    have e : i = xs.length := by omega
    rw [e] at p
    exact .inl ⟨by rw [e]; exact ⟨xs, q, Nat.le_refl _⟩, hd H p⟩
  | succ m =>
    have hlt : i < xs.length := by omega
    refine .inr ⟨⟨xs, xs[i], q, List.getElem?_eq_getElem hlt⟩, Pv (i + 1), fun H' p' => ⟨m, Nat.lt_succ_self m, by omega, p'⟩, fun x H' y => ?_⟩
    obtain ⟨e, y⟩ := y
    subst e
    exact hs i x _ (y xs q) p
/-- over the keys of a locked dict -/
theorem dc_keys {d : Addr} {o : Obj} {xs : List (Key × V)} {g : TG} {tt : TT} {tk tv : TE} {vs : List Nat} {σ : L2.St} {H1 : Hp} {D : Addr} {Qd : Hp → Prop} (Pv : Nat → Hp → Prop) (h0 : Pv 0 (upd H1 D (.dK []))) (hl : ∀ i H, Pv i H → H d = some (.frz o (.dK xs)))
    (hs : ∀ i k v H, xs[i]? = some (k, v) → Pv i H → g (kV k) (wipe σ vs) H fun σ2 H2 => wipe σ2 vs = wipe σ vs ∧ tt σ2 H2 fun b H3 =>
      if b = true then tk σ2 H3 fun y H4 => tv σ2 H4 fun z H5 => ∃ kvs k, y = kV k ∧ H5 D = some (.dK kvs) ∧ kvs.length < sizeLine ∧ Pv (i + 1) (upd H5 D (.dK (putK kvs k z))) else Pv (i + 1) H3) (hd : ∀ H, Pv xs.length H → Qd H) :
    ∃ W : Nat → Nat → Hp → Prop, (∃ m, W 0 m (upd H1 D (.dK []))) ∧ ∀ i m H, W i m H →
      ((Itk d o xs).stop i H ∧ Qd H) ∨ ((Itk d o xs).go i H ∧ ∃ Nx : Hp → Prop, (∀ H', Nx H' → ∃ m', m' < m ∧ W (i + 1) m' H') ∧ ∀ x H', (Itk d o xs).yld i H x H' → g x (wipe σ vs) H' fun σ2 H2 => wipe σ2 vs = wipe σ vs ∧ tt σ2 H2 fun b H3 =>
        if b = true then tk σ2 H3 fun y H4 => tv σ2 H4 fun z H5 => ∃ kvs k, y = kV k ∧ H5 D = some (.dK kvs) ∧ kvs.length < sizeLine ∧ Nx (upd H5 D (.dK (putK kvs k z))) else Nx H3) := by
  refine ⟨fun i m H => m + i = xs.length ∧ Pv i H, ⟨xs.length, by omega, h0⟩, fun i m H ⟨em, p⟩ => ?_⟩
  have q := hl i H p
  cases m with
  | zero =>
    have e : i = xs.length := by omega
    rw [e] at p
    exact .inl ⟨⟨q, by omega⟩, hd H p⟩
  | succ m =>
    refine .inr ⟨⟨q, by omega⟩, Pv (i + 1), fun H' p' => ⟨m, Nat.lt_succ_self m, by omega, p'⟩, fun x H' y => ?_⟩
    obtain ⟨rfl, k, v, e, rfl⟩ := y
    exact hs i k v _ e p
end
end Dm
/-! ### a dict comprehension that is bound to a local name at once -/
namespace Dm
open PySem PySem.Spec PyProof.Rows L2
section
variable {X : Cx}
/-- what stands within a comprehension's block -/
abbrev InBlk (X : Cx) (sc : Scope) (Pr : Cx → Prop) : Prop := ∀ (s : Shared) (H : Hp) (C : Addr) (cl : List (Str × Addr)) (fp : List Addr), Pr (X.blk s H sc (compEnvC sc cl C X.env) fp)
theorem sw_dict {kx vx : Expr} {gs : List Comprehension} {sc : Scope} {pos py : Pos} {y : Str} {l : Nat} {env : Env} (h1 : env.scope.kind = .function) (h2 : env.scope.names.lookup y = some .local) (h3 : (py.line == pos.line) = true)
    (h4 : (sc.names.any fun (n, k) => n == y && (k == .local || k == .cell)) = false) : swapsWith (.DictComp kx vx gs sc pos) (some (.Name y py)) l env = pure true := by
  have e1 : env.kindOf y = some .local := h2
  have e2 : env.blockKind = .function := by
    unfold Env.blockKind
    rw [h1]
    rfl
  unfold swapsWith
  simp only [Expr.pos, e1, e2, h3, h4]
  rfl
theorem ps_setDc {i : Nat} {y : Str} {py : Pos} {kx vx tg it : Expr} {cs : List Expr} {sc : Scope} {own : List (Str × Nat)} {pos sp : Pos} {wi : TI} {g : TG} {tt : TT} {tk tv : TE} (hc : X.calm = true) (nd : X.N.Nodup) (hy : X.N[i]? = some y) (hl : X.env.scope.names.lookup y = some .local)
    (sw : swapsWith (.DictComp kx vx [⟨tg, it, cs, 0⟩] sc pos) (some (.Name y py)) sp.line X.env = pure true) (hi : PI X tg it wi) (bo : BlkOk X.N X.env.scope sc own)
    (hg : InBlk X sc fun Y => PG Y tg g) (ht : InBlk X sc fun Y => PTs Y cs tt) (hk : InBlk X sc fun Y => PE Y kx tk) (hv : InBlk X sc fun Y => PE Y vx tv) (hf : ∀ x, foldedSetIterable it X.env x = pure x := by intro _; rfl) :
    PS X (.Assign [.Name y py] (.DictComp kx vx [⟨tg, it, cs, 0⟩] sc pos) sp) (tAsg (tDc wi g tt tk tv (own.map (·.2))) (gName i)) := by
  constructor
  intro pins s σ H D I h
  rw [exec_Assign_Name_used _ _ _ _ sw]
  refine wpAny_bind (wpAny_standAt (wpAny_bind ?_))
  show wpAny _ X.A (do
      let _ ← comprehension (.DictComp kx vx [⟨tg, it, cs, 0⟩] sc pos) sc X.env (firstIterPos [⟨tg, it, cs, 0⟩] pos) newDict false (eval it X.env) (some (assign (.Name y py) X.env))) _ _ s
  have h' : tDc wi g tt tk tv (own.map (·.2)) σ H fun x H1 => gName i x σ H1 D.nx := h
  refine wpAny_bind (thn (dc_core (Qf := fun _ z => SP X pins D .next z) hc nd I hi bo hg ht hk hv hf h' fun L C z m H1 I1 q hn f => ?_) fun _ z hq => wpAny_pure (wpAny_pure hq))
  show wpAny _ _ (assign (.Name y py) X.env (.ref L)) _ _ _
  refine wpAny_assign_Name (store_ok2 (v := V.ref L) I1 nd hy (.inl hl) rfl (fun z2 I2 ⟨a, sb, ha⟩ => ?_) (.inr hl))
  obtain ⟨g0, g1, g2, g3, g4, g5⟩ := f
  have ne : C ≠ a := ha.elim (fun e => e ▸ g1) fun e e2 => g4 y a e e2.symm
  exact ⟨m, hn.sameBut sb ne, fun z3 sb3 => ⟨_, H1, I2.turned (t' := z2.toks) (fun b o hb e => (sb3.2 b hb).trans e) g0 g1 g3 g4 g5, q⟩⟩
end
end Dm
/-! ### e + f, both of one own class with its own __add__ -/
namespace Ad
open PySem PySem.Spec PyProof.Rows L2
section
variable {X : Cx} {k j : Nat} {C : Addr} {sp : Sp}
def rAddO (C : Addr) (sp : Sp) : R2 := fun x y H Q => ∃ a b dx dy fs gs, x = .ref a ∧ y = .ref b ∧ H a = some (.ins C dx fs) ∧ H b = some (.ins C dy gs) ∧ sp [x, y] H (fun z H1 => ∃ c, z = .ref c ∧ Q z H1) C8.E0
theorem op_addO (c : C8.Met X.prog X.w X.K X.mg X.base k C "__add__" sp []) (hr : Room j X.A) (hk : k ≤ j) (hc : PySem.W.selfFirst X.K C = true) :
    OpR X (binaryOp .Add) (rAddO C sp) := by
  intro pins s σ H x y v u Q I rx ry h
  obtain ⟨a, b, dx, dy, fs, gs, rfl, rfl, ha, hb, q⟩ := h
  obtain ⟨f, fd, ps, ds, c1, hm, F, bi, dv⟩ := c.ex
  cases rx
  cases ry
  obtain ⟨mA, J, _⟩ := ins_get I.hok ha
  obtain ⟨od, J, _⟩ := J.look
  obtain ⟨mB, J2, _⟩ := ins_get I.hok hb
  obtain ⟨od2, J2, _⟩ := J2.look
  obtain ⟨m, hF⟩ := I.fr
  refine PySem.W.binop_K hF I.ok.mod.kin J J2.type hc hm.at_ hm.fn ?_
  have hq := run_fn (us := [Value.ref a, .ref b]) (vs := [V.ref a, V.ref b]) F (hr.mono hk) bi dv C8.pass0 I (.cons rfl (.cons rfl .nil)) q
  refine wpAny_mono hq (fun u s' ⟨z, H', I', rz, c, ez, q'⟩ => ?_) fun _ _ x => x
  subst ez
  cases rz
  exact ⟨.ref c, H', I', rfl, q'⟩
end
end Ad
/-! ### set(xs) of up to four tuples of texts, all different; len(set(xs)) -/
namespace Tt
open PySem PySem.Spec PyProof.Rows L2
section
variable {p : Program} {w : World} {A : Around} {E : Value → Shared → Prop} {s : Shared}
/-- at b stands the tuple of the texts k -/
abbrev Tx (p : Program) (w : World) (h : Heap) (k : List Str) (b : Addr) : Prop := IsTupleKey (PySem.strKind p w) h k b
abbrev hs (p : Program) (w : World) (k : List Str) : Int := tupleKeyHash (PySem.strKind p w) k
theorem Tx.to {h h' : Heap} {k : List Str} {b : Addr} (x : Tx p w h k b) (e : ∀ o, h.get? b = some o → h'.get? b = some o) : Tx p w h' k b :=
  let ⟨o, its, n, ho, r⟩ := x
  ⟨o, its, n, e o ho, r⟩
theorem texts_of {k : List Str} {vs : List Value} (h : ItemsAre (PySem.strKind p w) k vs) : ∀ v ∈ vs, ∃ x t, v = Value.str x t := by
  induction h with
  | nil => exact fun v hv => nomatch hv
  | cons a _ ih =>
    intro v hv
    cases List.mem_cons.mp hv with
    | inl e =>
      obtain ⟨t, z⟩ := Value.isStrOf_shape a
      exact ⟨_, t, e.trans z⟩
    | inr e => exact ih v e
theorem cls_txt (n : Nat) (x : Str) (t : Tok) : ofAClassStatement n (.str x t) = pure false := match n with | 0 => rfl | _ + 1 => rfl
theorem hsh_txt (n : Nat) (x : Str) (t : Tok) : hashByValue n (.str x t) = pure false := match n with | 0 => rfl | _ + 1 => rfl
theorem cls_tx {k : List Str} {b : Addr} {Q : Bool → Shared → Prop} (x : Tx p w s.heap k b) (q : Q false s) : wpAny (model p w) A (ofAClassStatement 8 (.ref b)) Q E s := by
  have ty := x.typeIs
  obtain ⟨o, its, n, ho, hc, hd, hi⟩ := x
  have hv := texts_of hi
  unfold ofAClassStatement
  refine wpAny_bind (wpAny_typeOf ty ?_)
  dsimp only
  rw [show (("tuple" : String) == "tuple") = true from by decide]
  simp only [if_true, Bool.not_true, Bool.false_eq_true, if_false]
  try refine wpAny_bind (wpAny_pure ?_)
  try simp only [Bool.not_true, Bool.false_eq_true, if_false]
  show wpAny _ _ (seqItems? (.ref b) >>= _) _ _ s
  refine wpAny_bind (wpAny_seqItems ho hd ?_)
  dsimp only
  refine wpAny_bind ?_
  show wpAny _ _ (forIn its _ _) _ _ s
  rw [← Array.forIn_toList]
  refine wpAny_forIn_list _ (fun l r z => r.1 = none ∧ z = s ∧ ∀ v ∈ l, ∃ x t, v = Value.str x t) _ (fun v l r z hz => ?_) (fun r z hz => ?_) _ _ ⟨rfl, rfl, hv⟩
  · obtain ⟨hr, rfl, al⟩ := hz
    obtain ⟨x, t, rfl⟩ := al v (.head _)
    rw [cls_txt]
    refine wpAny_bind (wpAny_pure ?_)
    simp only [Bool.false_eq_true, if_false]
    exact wpAny_pure ⟨rfl, rfl, fun u hu => al u (.tail _ hu)⟩
  · obtain ⟨r1, r2⟩ := r
    obtain ⟨hr, rfl, _⟩ := hz
    obtain rfl : r1 = none := hr
    exact wpAny_pure q
theorem hsh_tx {k : List Str} {b : Addr} {Q : Bool → Shared → Prop} (x : Tx p w s.heap k b) (q : ∀ r, Q r s) : wpAny (model p w) A (hashByValue 8 (.ref b)) Q E s := by
  have ty := x.typeIs
  obtain ⟨o, its, n, ho, hc, hd, hi⟩ := x
  have hv := texts_of hi
  unfold hashByValue
  refine wpAny_bind (wpAny_specialOf ty PySem.F.slot_tuple_hash.lookup ?_)
  show wpAny _ _ (seqItems? (.ref b) >>= _) _ _ s
  refine wpAny_bind (wpAny_seqItems ho hd (wpAny_bind ?_))
  show wpAny _ _ (forIn its _ _) _ _ s
  rw [← Array.forIn_toList]
  generalize its.toList = l at hv
  cases l with
  | nil => exact wpAny_pure (wpAny_pure (q _))
  | cons v l =>
    obtain ⟨x, t, rfl⟩ := hv v (.head _)
    rw [List.forIn_cons, hsh_txt]
    refine wpAny_bind (wpAny_bind (wpAny_pure ?_))
    simp only [Bool.not_false, if_true]
    exact wpAny_pure (wpAny_pure (wpAny_pure (q _)))
/-- a search among such tuples is not seen -/
theorem unseen {k : List Str} {b : Addr} {Q : Bool → Shared → Prop} (x : Tx p w s.heap k b) {ys : List Value} (hy : ∀ y ∈ ys, ∃ k' c, y = Value.ref c ∧ Tx p w s.heap k' c) (q : Q false s) :
    wpAny (model p w) A (searchCouldBeSeen (.ref b) ys) Q E s := by
  unfold searchCouldBeSeen
  refine wpAny_bind ?_
  refine wpAny_forIn_list _ (fun l r z => r.1 = none ∧ z = s ∧ ∀ y ∈ l, ∃ k' c, y = Value.ref c ∧ Tx p w s.heap k' c) _ (fun v l r z hz => ?_) (fun r z hz => ?_) _ _ ⟨rfl, rfl, hy⟩
  · obtain ⟨hr, rfl, al⟩ := hz
    obtain ⟨k', c, rfl, xc⟩ := al v (.head _)
    have al' : ∀ y ∈ l, ∃ k' c, y = Value.ref c ∧ Tx p w z.heap k' c := fun u hu => al u (.tail _ hu)
    dsimp only
    by_cases hv : (b == c || (carriedByValue (.ref b) && carriedByValue (.ref c))) = true
    · exact wp_if_pos hv (wpAny_pure ⟨rfl, rfl, al'⟩)
    · refine wp_if_neg hv (wpAny_bind (wpAny_eqIsQuiet_tuple x ?_))
      simp only [Bool.not_true, Bool.false_eq_true, if_false]
      refine wpAny_bind (wpAny_eqIsQuiet_tuple xc ?_)
      simp only [Bool.not_true, Bool.false_eq_true, if_false]
      refine wpAny_bind (cls_tx x ?_)
      simp only [Bool.false_eq_true, if_false]
      refine wpAny_bind (cls_tx xc ?_)
      simp only [Bool.false_eq_true, if_false]
      exact wpAny_pure ⟨rfl, rfl, al'⟩
  · obtain ⟨r1, r2⟩ := r
    obtain ⟨hr, rfl, _⟩ := hz
    obtain rfl : r1 = none := hr
    exact wpAny_pure q
end
end Tt
namespace Tt
open PySem PySem.Spec PyProof.Rows L2
section
variable {p : Program} {w : World} {A : Around} {E : Value → Shared → Prop} {s : Shared}
/-- an entry: where the tuple stands, its texts -/
abbrev Ent := Addr × List Str
abbrev rows (p : Program) (w : World) (L : List Ent) : List (Int × Value) := L.map fun e => (hs p w e.2, Value.ref e.1)
abbrev hss (p : Program) (w : World) (L : List Ent) : List Int := L.map fun e => hs p w e.2
/-- a small set of such tuples -/
structure Sm (p : Program) (w : World) (h : Heap) (a : Addr) (L : List Ent) (es : Array (Int × Value)) (ep : Nat) (t : SetTable) : Prop where
  ob : ∃ o, h.get? a = some o ∧ o.ExactSet ∧ o.data = .set es ep t
  es : es.toList = rows p w L
  tab : TabOk t (hss p w L)
  tx : ∀ e ∈ L, Tx p w h e.2 e.1
  m7 : t.mask = 7
  l4 : L.length ≤ 4
variable {a : Addr} {L : List Ent} {es : Array (Int × Value)} {ep : Nat} {t : SetTable}
theorem Sm.sz (R : Sm p w s.heap a L es ep t) : es.size = L.length := by
  rw [← Array.length_toList, R.es, List.length_map]
theorem Sm.psz (R : Sm p w s.heap a L es ep t) : t.place.toList.length = L.length := by
  have := R.tab.sz
  rw [List.length_map] at this
  rw [Array.length_toList]
  exact this
theorem Sm.fits (R : Sm p w s.heap a L es ep t) : t.fits es.size = true := by
  have h1 := R.sz
  have h2 := R.psz
  have h3 := R.l4
  have h4 := R.m7
  rw [Array.length_toList] at h2
  unfold SetTable.fits SetTable.fill
  rw [R.tab.dm, Bool.and_eq_true, beq_iff_eq, decide_eq_true_eq]
  show t.place.size = es.size ∧ t.place.size + 0 ≤ t.mask
  omega
theorem Sm.at_ (R : Sm p w s.heap a L es ep t) {i : Nat} {e : Ent} (h : L[i]? = some e) : es[i]? = some (hs p w e.2, Value.ref e.1) := by
  rw [← Array.getElem?_toList, R.es, List.getElem?_map, h]
  rfl
/-- the c-th probe for the hash h -/
abbrev pr (t : SetTable) (h : Int) (c : Nat) : SetTable.Probe := nth t.mask (runAt t.mask (SetTable.bits h % (t.mask + 1)) (SetTable.bits h)) c
theorem pr_dummy (t : SetTable) (h : Int) (c : Nat) : (pr t h c).dummy = none := by
  have key : ∀ (n : Nat) (q : SetTable.Probe), q.dummy = none → (nth t.mask q n).dummy = none := fun n => by
    induction n with
    | zero => exact fun q e => e
    | succ n ih => exact fun q e => ih (adv t.mask q) (by unfold adv; split <;> exact e)
  exact key c _ rfl
theorem pr_add (t : SetTable) (h : Int) (c d : Nat) : nth t.mask (pr t h c) d = pr t h (c + d) := (nth_add t.mask c _ d).symm
/-- what isn't there yet is looked for: up to the first free slot -/
theorem look (R : Sm p w s.heap a L es ep t) {x : Addr} {k : List Str} (hx : Tx p w s.heap k x) (hu : A.units < cLine) (new : k ∉ L.map (·.2)) {K : Nat} (hKf : K < 10 * SetTable.turns t.mask)
    (hK : way t.mask (hs p w k) K ∉ t.place.toList) (hb : ∀ c, c < K → way t.mask (hs p w k) c ∈ t.place.toList) {Q : SetFound → Shared → Prop} (q : Q (.free (way t.mask (hs p w k) K) false) s) :
    ∀ (f c : Nat) (st : Option SetTable.Probe), st.getD (t.probeStart (hs p w k)) = pr t (hs p w k) c → c ≤ K → K - c < f → wpAny (model p w) A (setSearchFrom a (.ref x) (hs p w k) true f st) Q E s := by
  intro f
  induction f with
  | zero => exact fun c st _ _ h => absurd h (Nat.not_lt_zero _)
  | succ f ih =>
    intro c st hst hc hf
    obtain ⟨o, ho, hex, hd⟩ := R.ob
    rw [setSearchFrom_succ]
    refine wpAny_bind (wpAny_setState_of ho hd R.fits ?_)
    dsimp only
    refine wp_if_neg (show ¬ t.gaveWay = true by unfold SetTable.gaveWay; rw [R.m7]; decide) ?_
    try refine wpAny_bind (wpAny_pure ?_)
    have w1 : ∀ d, (nth t.mask (pr t (hs p w k) c) d).j = way t.mask (hs p w k) (c + d) := fun d => congrArg SetTable.Probe.j (pr_add t _ c d)
    have eK : c + (K - c) = K := by omega
    rcases go_spec t R.tab.ris R.tab.dm (fun i => (es[i]?.map (·.1)).getD 0) (hs p w k) (10 * SetTable.turns t.mask) (K - c) (pr t (hs p w k) c) (pr_dummy _ _ _) (by omega)
      (fun d hd' => by rw [w1]; exact hb _ (by omega)) (by rw [w1, eK]; exact hK) with ⟨d, i, hd1, hi, hh, _, hp⟩ | ⟨_, hp⟩
    · -- one of the same hash
      have hp' : t.probe (fun i => (es[i]?.map (·.1)).getD 0) (hs p w k) (st.getD (t.probeStart (hs p w k))) = some (.candidate (way t.mask (hs p w k) (c + d)) i (pr t (hs p w k) (c + (d + 1)))) := by
        rw [hst, ← w1, ← pr_add]
        exact hp
      rw [hp']
      dsimp only
      rw [w1] at hi
      have hil : i < L.length := by
        have := (List.getElem?_eq_some_iff.mp hi).1
        rw [R.psz] at this
        exact this
      obtain ⟨e, he⟩ : ∃ e, L[i]? = some e := ⟨_, List.getElem?_eq_getElem hil⟩
      have me := List.mem_of_getElem? he
      have ne : e.2 ≠ k := fun z => new (List.mem_map.mpr ⟨e, me, z⟩)
      have go : wpAny (model p w) A (searchRest a (.ref x) (hs p w k) true f es t (way t.mask (hs p w k) (c + d)) i (pr t (hs p w k) (c + (d + 1)))) Q E s := by
        unfold searchRest
        rw [R.at_ he]
        dsimp only
        refine wpAny_bind (wpAny_holding (wpAny_eqBool_tuple hu (R.tx e me) hx ?_))
        refine wpAny_bind (wpAny_setState_of ho hd R.fits ?_)
        dsimp only
        refine wp_if_neg (by simp [ne]) ?_
        try refine wpAny_bind (wpAny_pure ?_)
        rw [show t.sameMemory t.moves t.mask = some true from by unfold SetTable.sameMemory; exact if_pos (beq_self_eq_true _)]
        dsimp only
        simp only [if_true, slot_live R.tab.ris hi, R.at_ he]
        refine wpAny_bind (wpAny_isSame_ref_self (wpAny_bind (wpAny_pure ?_)))
        simp only [if_true]
        exact wp_if_neg (by simp [ne]) (ih (c + (d + 1)) _ rfl (by omega) (by omega))
      by_cases hl : t.led = true
      · refine wp_if_neg (by simp [hl]) ?_
        try refine wpAny_bind (wpAny_pure ?_)
        exact go
      · refine wp_if_pos (by simp [hl]) (wpAny_bind (unseen hx (fun y hy => ?_) ?_))
        · obtain ⟨u, hu1, rfl⟩ := List.mem_map.mp hy
          have hu2 : u ∈ es.toList := by
            have : u ∈ es ∧ u.1 = hs p w k := by simpa using hu1
            simpa using this.1
          rw [R.es] at hu2
          obtain ⟨e2, m2, rfl⟩ := List.mem_map.mp hu2
          exact ⟨e2.2, e2.1, rfl, R.tx e2 m2⟩
        · refine wp_if_neg (by decide) ?_
          try refine wpAny_bind (wpAny_pure ?_)
          exact go
    · have hp' : t.probe (fun i => (es[i]?.map (·.1)).getD 0) (hs p w k) (st.getD (t.probeStart (hs p w k))) = some (.empty (way t.mask (hs p w k) K) none) := by
        have e2 := w1 (K - c)
        rw [eK] at e2
        rw [hst, ← e2]
        exact hp
      rw [hp']
      exact wpAny_pure q
end
end Tt
namespace Tt
open PySem PySem.Spec PyProof.Rows L2
section
variable {p : Program} {w : World} {A : Around} {E : Value → Shared → Prop} {s : Shared} {a : Addr} {L : List Ent} {es : Array (Int × Value)} {ep : Nat} {t : SetTable}
/-- one more is put in -/
theorem put (R : Sm p w s.heap a L es ep t) {x : Addr} {k : List Str} (hx : Tx p w s.heap k x) (hu : A.units < cLine) (new : k ∉ L.map (·.2)) (l3 : L.length ≤ 3) {Q : Bool → Shared → Prop}
    (q : ∀ h' L' es' ep' t', Heap.SameBut a s.heap h' → Sm p w h' a L' es' ep' t' → L'.Perm ((x, k) :: L) → Q true { s with heap := h' }) : wpAny (model p w) A (setAddHashed a (.ref x) (hs p w k)) Q E s := by
  obtain ⟨o, ho, hex, hd⟩ := R.ob
  unfold setAddHashed
  refine wpAny_holding ?_
  rw [show (100000 : Nat) = 99999 + 1 from rfl, setAddHashedIn_succ]
  refine wpAny_bind (wpAny_setState_of ho hd R.fits ?_)
  dsimp only
  refine wp_if_neg (by simp [byScan, Value.scannable]) ?_
  try refine wpAny_bind (wpAny_pure ?_)
  obtain ⟨K, hKf, hK, hb⟩ := R.tab.first (by rw [List.length_map, R.m7]; omega) (hs p w k)
  have ht : 10 * SetTable.turns t.mask ≤ 1420 := by
    unfold SetTable.turns
    rw [R.m7]
    omega
  have srch : ∀ {Q' : SetFound → Shared → Prop}, Q' (.free (way t.mask (hs p w k) K) false) s → wpAny (model p w) A (setSearch a (.ref x) (hs p w k) true) Q' E s := fun {Q'} h => by
    unfold setSearch
    exact look R hx hu new hKf hK hb h 100000 0 none rfl (Nat.zero_le _) (by omega)
  refine wpAny_bind (srch ?_)
  dsimp only
  refine wpAny_bind (wpAny_setState_of ho hd R.fits ?_)
  dsimp only
  obtain ⟨e1, e2, e3, e4, _, _, _, _, e9⟩ := R.tab.put hK hb
  generalize t.put (way t.mask (hs p w k) K) = pt at e1 e3 e4 e9 ⊢
  obtain ⟨t1, i⟩ := pt
  dsimp only at e1 e3 e4 e9 ⊢
  subst e1
  have tin : (SetTable.insertAt es (SetTable.below t.place (way t.mask (hs p w k) K)) (hs p w k, Value.ref x)).toList = rows p w (L.take (SetTable.below t.place (way t.mask (hs p w k) K)) ++ (x, k) :: L.drop (SetTable.below t.place (way t.mask (hs p w k) K))) := by
    rw [SetTable.toList_insertAt, R.es, rows, rows, List.map_append, List.map_cons, List.map_take, List.map_drop]
  have thh : hss p w (L.take (SetTable.below t.place (way t.mask (hs p w k) K)) ++ (x, k) :: L.drop (SetTable.below t.place (way t.mask (hs p w k) K))) = (hss p w L).take (SetTable.below t.place (way t.mask (hs p w k) K)) ++ hs p w k :: (hss p w L).drop (SetTable.below t.place (way t.mask (hs p w k) K)) := by
    rw [hss, hss, List.map_append, List.map_cons, List.map_take, List.map_drop]
  rw [← thh] at e3
  generalize SetTable.below t.place (way t.mask (hs p w k) K) = i at e2 e3 tin ⊢
  have pm : (L.take i ++ (x, k) :: L.drop i).Perm ((x, k) :: L) := by
    have h := List.perm_middle (a := (x, k)) (l₁ := L.take i) (l₂ := L.drop i)
    rw [List.take_append_drop] at h
    exact h
  have nf : t1.tooFull = false := by
    unfold SetTable.tooFull
    rw [decide_eq_false_iff_not, e9, List.length_map, e4, R.m7]
    omega
  have fin : ∀ b : Bool, wpAny (model p w) A (do
      storeSet a (SetTable.insertAt es i (hs p w k, Value.ref x)) (if b = true then t1 else { t1 with plain := false })
      if (!false && (if b = true then t1 else { t1 with plain := false }).tooFull) = true then setRelay a (SetTable.grown (es.size + 1))
      pure true) Q E s := fun b => by
    have hz : (SetTable.insertAt es i (hs p w k, Value.ref x)).size = L.length + 1 := by
      rw [← Array.length_toList, tin, List.length_map, pm.length_eq]
      rfl
    generalize SetTable.insertAt es i (hs p w k, Value.ref x) = es1 at tin hz ⊢
    generalize ht2 : (if b = true then t1 else { t1 with plain := false }) = t2
    have k1 : t2.tooFull = false := by rw [← ht2]; cases b <;> exact nf
    have k2 : t2.mask = t1.mask := by rw [← ht2]; cases b <;> rfl
    have k3 : TabOk t2 (hss p w (L.take i ++ (x, k) :: L.drop i)) := by
      rw [← ht2]
      cases b
      · exact ⟨e3.ris, e3.dm, e3.sz, e3.mok, e3.bd, e3.reach⟩
      · exact e3
    refine wpAny_bind (wpAny_storeSet_of ho hd ?_ (by rw [hz, sizeLine_eq]; omega))
    have sb : Heap.SameBut a s.heap (s.heap.update a (Obj.putSet es1 t2)) := Heap.SameBut.update ..
    have ho1 := store_at (es' := es1) (t' := t2) ho hd
    generalize s.heap.update a (Obj.putSet es1 t2) = h1 at sb ho1 ⊢
    have keep : ∀ {k' : List Str} {c : Addr}, Tx p w s.heap k' c → Tx p w h1 k' c := fun {k' c} y => y.to fun u hu' => by
      have ne : c ≠ a := fun z => by
        obtain ⟨o2, its, n, ho2, _, hd2, _⟩ := y
        rw [z, ho] at ho2
        cases ho2
        rw [hd] at hd2
        cases hd2
      exact (sb.2 c ne).trans hu'
    refine wp_if_neg (by simp [k1]) ?_
    try refine wpAny_bind (wpAny_pure ?_)
    refine wpAny_pure (q h1 _ es1 (ep + 1) t2 sb ⟨⟨_, ho1, ⟨hex.1, hex.2.1, hex.2.2⟩, rfl⟩, tin, k3, fun e he => ?_, by rw [k2, e4, R.m7], by rw [pm.length_eq, List.length_cons]; omega⟩ pm)
    rcases List.mem_cons.mp (pm.mem_iff.mp he) with z | z
    · rw [z]; exact keep hx
    · exact keep (R.tx e z)
  by_cases hp : t1.plain = true
  · first
      | (refine wpAny_bind ?_; refine wp_if_pos hp ?_; exact hsh_tx hx fun r => fin r)
      | refine wp_if_pos hp (wpAny_bind (hsh_tx hx fun r => fin r))
  · first
      | (refine wpAny_bind ?_; refine wp_if_neg hp ?_; exact wpAny_pure (fin true))
      | refine wp_if_neg hp (wpAny_bind (wpAny_pure (fin true)))
end
end Tt
namespace Tt
open PySem PySem.Spec PyProof.Rows L2
section
variable {p : Program} {w : World} {A : Around} {R : Result → Shared → Prop} {E : Value → Shared → Prop} {I : Addr} {fp wr : List Addr} {G : Array GenState → Array GenState → Prop} {n : Nat} {P : Nat → Value → Prop} {St : Nat → Shared → Prop} {s : Shared}
/-- the first i of xs are in the set at S -/
def Got (p : Program) (w : World) (h : Heap) (S : Addr) (xs : List Ent) (i : Nat) : Prop := ∃ L es ep t, Sm p w h S L es ep t ∧ L.Perm (xs.take i)
theorem Got.fresh {h : Heap} {S : Addr} {xs : List Ent} {led : Bool} (e : h.get? S = some { cls := .type "set", dict := none, data := .set #[] 0 (.fresh 0 0 led) }) : Got p w h S xs 0 :=
  ⟨[], #[], 0, .fresh 0 0 led, ⟨⟨_, e, ⟨rfl, rfl, rfl⟩, rfl⟩, rfl, ⟨List.Pairwise.nil, rfl, rfl, .inl rfl, fun x hx => (by cases hx), fun i h j hi => (by simp at hi)⟩, fun e h => (by cases h), rfl, Nat.zero_le _⟩, List.Perm.refl _⟩
/-- the loop: tuple behind tuple -/
theorem upd_tups (W : WalksS p w A.in1 I fp wr G n P St) {S : Addr} (hSf : S ∉ fp) {xs : List Ent} {h0 : Heap} (hn : xs.length = n) (nd : (xs.map (·.2)).Nodup) (l4 : xs.length ≤ 4) (hval : ∀ i v, P i v → ∃ e, xs[i]? = some e ∧ v = .ref e.1)
    (hx : ∀ e ∈ xs, Tx p w h0 e.2 e.1) (hS0 : h0.get? S = none) (hw0 : ∀ b ∈ wr, h0.get? b = none) (hu : A.in1.units < cLine) :
    ∀ (j i : Nat) (s : Shared), i + j = n → St i s → (∀ b o, h0.get? b = some o → s.heap.get? b = some o) → Got p w s.heap S xs i → (∀ s', Moved (S :: wr) G s s' → Got p w s'.heap S xs n → R (.ok (.ret .none)) s') →
      codeAny (model p w) A (.builtin "set.update.loop" ⟨[.ref S, .ref I], []⟩) R s := by
  have nw : S ∉ wr := fun z => hSf (W.sub _ z)
  have up : ∀ b ∈ wr, b ∈ S :: wr := fun _ z => .tail _ z
  have kp : ∀ {s s' : Shared}, Moved wr G s s' → (∀ b o, h0.get? b = some o → s.heap.get? b = some o) → ∀ b o, h0.get? b = some o → s'.heap.get? b = some o := fun m k b o e =>
    m.heap b o (fun hb => by rw [hw0 b hb] at e; cases e) (k b o e)
  have sub : ∀ {L : List Ent} {i : Nat}, L.Perm (xs.take i) → ∀ e ∈ L, e ∈ xs := fun pm e he => List.mem_of_mem_take (pm.mem_iff.mp he)
  have mv : ∀ {s s' : Shared} {i : Nat}, Moved wr G s s' → (∀ b o, h0.get? b = some o → s'.heap.get? b = some o) → Got p w s.heap S xs i → Got p w s'.heap S xs i := fun m k ⟨L, es, ep, t, ⟨⟨o, ho, r⟩, r2, r3, _, r5, r6⟩, pm⟩ =>
    ⟨L, es, ep, t, ⟨⟨o, m.heap S o nw ho, r⟩, r2, r3, fun e he => (hx e (sub pm e he)).to fun u => k _ u, r5, r6⟩, pm⟩
  intro j
  induction j with
  | zero =>
    rintro i s rfl hst k g hR
    refine codeAny_builtin PyProof.Rows.F.entry_set_update_loop ?_
    rw [Around.under_plainId PyProof.Rows.F.plain_set_update_loop _]
    exact wpAny_bind (W.done s _ _ hst fun s' m => wpAny_pure (hR s' (m.mono up) (mv m (kp m k) g)))
  | succ j ih =>
    intro i s hij hst k g hR
    refine codeAny_builtin PyProof.Rows.F.entry_set_update_loop ?_
    rw [Around.under_plainId PyProof.Rows.F.plain_set_update_loop _]
    refine wpAny_bind (W.item i s _ _ (by omega) hst fun v s1 hP hs1 m => ?_)
    obtain ⟨e, he, rfl⟩ := hval i v hP
    have k1 := kp m k
    obtain ⟨L, es, ep, t, R1, pm⟩ := mv m k1 g
    have me := List.mem_of_getElem? he
    have hi := (List.getElem?_eq_some_iff.mp he).1
    have new : e.2 ∉ L.map (·.2) := fun z => by
      have z : e.2 ∈ (xs.take i).map (·.2) := (pm.map (·.2)).mem_iff.mp z
      have nd2 : ((xs.take (i + 1)).map (·.2)).Nodup := nd.sublist ((List.take_sublist _ _).map _)
      rw [List.take_succ, he, List.map_append, List.nodup_append] at nd2
      exact nd2.2.2 _ z _ (by simp) rfl
    have ll : L.length ≤ 3 := by rw [pm.length_eq, List.length_take]; omega
    have xe : Tx p w s1.heap e.2 e.1 := (hx e me).to fun u => k1 _ u
    show wpAny _ A.in1 (holding [Value.ref e.1] (setAdd S (.ref e.1)) >>= _) _ _ s1
    refine wpAny_bind (wpAny_holding ?_)
    unfold setAdd
    refine wpAny_holding (wpAny_bind (wpAny_pyHash_tuple hu xe ?_))
    refine put (s := { s1 with toks := s1.toks + (e.2.length + 1) }) R1 xe hu new ll fun h2 L2 es2 ep2 t2 sb R2 pm2 => ?_
    have pm3 : L2.Perm (xs.take (i + 1)) := by
      rw [List.take_succ, he]
      exact pm2.trans (((List.Perm.cons e pm).trans (List.perm_append_singleton e (xs.take i)).symm))
    have k2 : ∀ b o, h0.get? b = some o → h2.get? b = some o := fun b o z => (sb.2 b fun y => by rw [y, hS0] at z; cases z).trans (k1 b o z)
    refine wpAny_pure ⟨plainId_quiet PyProof.Rows.F.plain_set_update_loop _, ih (i + 1) _ (by omega) (W.frame _ s1 _ _ hs1 (Nat.le_add_right _ _) fun b hb o z => ?_) k2 ⟨L2, es2, ep2, t2, R2, pm3⟩ fun s3 m3 g3 => hR s3 (Moved.trans W.gtrans ((m.mono up).then_heap (Nat.le_add_right _ _) fun b o nb z => ?_) m3) g3⟩
    · exact (sb.2 b fun y => hSf (y ▸ hb)).trans z
    · exact (sb.2 b fun y => nb (y ▸ .head _)).trans z
end
/-- a set that was just laid -/
abbrev nset (led : Bool) : Obj := { cls := .type "set", dict := none, data := .set #[] 0 (.fresh 0 0 led) }

theorem set_list {p : Program} {w : World} {A : Around} {E : Value → Shared → Prop} {s : Shared} {l : Addr} {its : Array Value} {xs : List Ent} {Q : Value → Shared → Prop} (hh : A.handled = none) (hl : s.heap.IsList l its) (hi : its.toList = xs.map fun e => Value.ref e.1) (hx : ∀ e ∈ xs, Tx p w s.heap e.2 e.1) (nd : (xs.map (·.2)).Nodup) (l4 : xs.length ≤ 4) (hu : A.units + 3 < cLine)
    (h : ∀ (h' : Heap) (tk : Nat), Got p w h' s.heap.objs.size xs xs.length → (∀ b o, b < s.heap.objs.size → s.heap.get? b = some o → h'.get? b = some o) → Q (.ref s.heap.objs.size) { s with heap := h', toks := tk }) :
    wpAny (model p w) A (call (.type "set") [.ref l]) Q E s := by
  obtain ⟨c, tl, hmro⟩ := PySem.F.called_set.mro
  have f1 := PySem.F.called_set.made
  have f2 := PySem.F.called_set.sub
  have f3 := PySem.F.called_set.notType
  have f4 := PySem.F.called_set.canCreate
  have f5 := PySem.F.typeCall_set_1 (.ref l)
  refine wpAny_call (codeAny_of_tree ?_)
  show wpAny _ _ (callAny (.type "set") _) _ _ _
  refine wpAny_pure ⟨Code.quiet_builtin _ (by decide +kernel), codeAny_builtin PySem.F.entry_type_call ?_⟩
  rw [Around.under_plain (weight_type_call_type "set" [.ref l] []) rfl]
  repeat (any_goals (first | assumption | wp_step))
  refine codeAny_mono (code_set_new_1 (.ref l) (E := E) (Q₁ := fun u s₁ => ∃ led, u = .ref s.heap.objs.size ∧ s₁ = { s with heap := s.heap.push (nset led) }) fun led => ⟨led, rfl, rfl⟩) fun r s₁ hr => ?_
  match r, hr with
  | .error _, hr => exact hr
  | .ok .next, hr => exact hr.elim
  | .ok .brk, hr => exact hr.elim
  | .ok .cont, hr => exact hr.elim
  | .ok (.ret u), hr =>
  obtain ⟨led, rfl, rfl⟩ := hr
  have hS : (s.heap.push (nset led)).get? s.heap.objs.size = some (nset led) := Heap.get?_push_size _ rfl
  have hT : Shared.TypeIs { s with heap := s.heap.push (nset led) } (.ref s.heap.objs.size) "set" := ⟨_, hS, rfl⟩
  have g1 := PySem.F.called_set.init.lookup
  have g2 := PySem.F.called_set.init.bind (.ref s.heap.objs.size)
  repeat (any_goals (first | assumption | wp_step))
  refine codeAny_mono (codeAny_call_builtin (R := wants (fun r s₂ => r = .none ∧ ∃ h' tk, s₂ = { s with heap := h', toks := tk } ∧ Got p w h' s.heap.objs.size xs xs.length ∧ (∀ b o, b < s.heap.objs.size → s.heap.get? b = some o → h'.get? b = some o)) E) PySem.F.called_set.init.plain PySem.F.entry_set_init (check_set_init_1 hT ?_)) fun r₂ s₂ hr₂ => ?_
  · obtain ⟨⟨oc, od, dt, sl⟩, ho, hc, nl, hd⟩ := hl
    simp only at hc hd
    subst hc hd
    have ho' : (s.heap.push (nset led)).get? l = some { cls := .type "list", dict := od, data := .seq its nl, slots := sl } := Heap.get?_push_of_some _ ho
    have t1 := PySem.F.sub_list_set
    have t2 := PySem.F.sub_list_frozenset
    have t3 : (Value.type "list" == Value.type "dict") = false := by decide
    have hl1 : (s.heap.push (nset led)).IsList l its := ⟨_, ho', rfl, nl, rfl⟩
    unfold Builtin.«set.__init__» noKeywords Builtin.Frozenset.updateFrom
    generalize hPI : pyIter = PI
    wp_walk
    subst hPI
    have lt := Heap.lt_size ho
    have sz : (s.heap.push (nset led)).objs.size = s.heap.objs.size + 1 := Heap.size_push _ _
    have ne : l ≠ (s.heap.push (nset led)).objs.size := by rw [sz]; exact Nat.ne_of_lt (Nat.lt_succ_of_lt lt)
    refine wpAny_pyIter_list hl1 (wpAny_bind (wpAny_runValue ?_))
    have none_of : ∀ b, s.heap.objs.size ≤ b → s.heap.get? b = none := fun b hb => by
      cases q : s.heap.get? b with
      | none => rfl
      | some o => exact absurd (Nat.lt_of_lt_of_le (Heap.lt_size q) hb) (Nat.lt_irrefl _)
    have il : its.size = xs.length := by rw [← Array.length_toList, hi, List.length_map]
    refine upd_tups (xs := xs) (S := s.heap.objs.size) (h0 := s.heap) ((Walks.list (A := A.in1.in1.in1) (by simp [hh]) _ l ne its).toS) ?_ il.symm nd l4 (fun i v hv => ?_) hx (none_of _ (Nat.le_refl _)) (fun b hb => none_of b (by rw [List.mem_singleton.mp hb, sz]; exact Nat.le_succ _)) hu its.size 0 _ (by omega) ⟨⟨_, Heap.get?_push_size _ rfl, rfl, rfl⟩, hl1.push _⟩ (fun b o e => Heap.get?_push_of_some _ (Heap.get?_push_of_some _ e)) (.fresh (led := led) (Heap.get?_push_of_some _ hS)) ?_
    · rw [sz]
      simp only [List.mem_cons, List.not_mem_nil, or_false, not_or]
      exact ⟨Nat.ne_of_lt (Nat.lt_succ_self _), Nat.ne_of_gt lt⟩
    · have q : its.toList[i]? = some v := by rw [Array.getElem?_toList]; exact hv
      rw [hi, List.getElem?_map] at q
      cases e : xs[i]? with
      | none => rw [e] at q; cases q
      | some y => rw [e] at q; exact ⟨y, rfl, (Option.some.inj q).symm⟩
    · rintro ⟨h', g', d', tk', os'⟩ m hS'
      obtain rfl : g' = s.gens := m.gens
      obtain rfl : d' = s.drawn := m.drawn
      obtain rfl : os' = s.os := m.os
      rw [il] at hS'
      refine wpAny_pure (wpAny_pure ⟨rfl, h', tk', rfl, hS', fun b o hb e => m.heap b o ?_ (Heap.get?_push_of_some _ (Heap.get?_push_of_some _ e))⟩)
      rw [sz]
      simp only [List.mem_cons, List.not_mem_nil, or_false, not_or]
      exact ⟨Nat.ne_of_lt hb, Nat.ne_of_lt (Nat.lt_succ_of_lt hb)⟩
  · match r₂, hr₂ with
    | .error _, hr₂ => exact hr₂
    | .ok .next, hr₂ => exact hr₂.elim
    | .ok .brk, hr₂ => exact hr₂.elim
    | .ok .cont, hr₂ => exact hr₂.elim
    | .ok (.ret r), hr₂ =>
      obtain ⟨rfl, h', tk, rfl, q1, q2⟩ := hr₂
      repeat (any_goals (first | assumption | wp_step))
      exact h _ _ q1 q2

end Tt
namespace Tt
open PySem PySem.Spec PyProof.Rows L2
theorem items_of {p : Program} {w : World} : ∀ {k : List Str} {us : List Value}, Vals (k.map V.str) us → ItemsAre (PySem.strKind p w) k us
  | [], _, h => by cases h; exact .nil
  | x :: k, _, h => by
    cases h with
    | cons r t =>
      obtain ⟨tk, rfl⟩ := r
      exact .cons (strKind_is _ _ _ _) (items_of t)
theorem tx_of {X : Cx} {pins : List (Addr × Obj)} {σ : L2.St} {H : Hp} {s : Shared} {b : Addr} {k : List Str} (I : Inv X pins σ H s) (h : SqT X.K H b (k.map V.str)) : Tx X.prog X.w s.heap k b := by
  obtain ⟨its, r, pl, _⟩ := I.tuple h
  obtain ⟨o, ho, hc, n, hd⟩ := pl
  exact ⟨o, _, n, ho, hc, hd, items_of (by simpa using r)⟩
theorem refs_of : ∀ {xs : List Ent} {us : List Value}, Vals (xs.map fun e => V.ref e.1) us → us = xs.map fun e => Value.ref e.1
  | [], _, h => by cases h; rfl
  | e :: xs, _, h => by
    cases h with
    | cons r t =>
      cases r
      rw [refs_of t]
      rfl
/-- len(set(xs)), up to four tuples of texts, all different -/
def tLenSetT (K : PySem.W.Frag) (ta : TE) : TE := fun σ H Q => ta σ H fun x H1 => ∃ (l : Addr) (xs : List Ent), x = .ref l ∧ SqL K H1 l (xs.map fun e => V.ref e.1) ∧ (∀ e ∈ xs, SqT K H1 e.1 (e.2.map V.str)) ∧ (xs.map (·.2)).Nodup ∧ xs.length ≤ 4 ∧ Q (.int xs.length) H1
theorem pe_lenSetT {X : Cx} {K : PySem.W.Frag} {a : Expr} {ta : TE} {p p2 q pos : Pos} (hK : X.K = K) (hu : X.A.units + 3 < cLine) (hc : X.calm = true) (hg : Gl X "len") (hm : X.mg "len" = none) (hg2 : Gl X "set") (hm2 : X.mg "set" = none) (ha : PE X a ta)
    (na : starEach [a] X.env = (false, eval a X.env) :: starEach [] X.env := by rfl) : PE X (.Call (.Name "len" p) [.Call (.Name "set" p2) [a] [] q] [] pos) (tLenSetT K ta) := by
  subst hK
  refine ⟨fun pins s σ H Q I h => ?_⟩
  refine Call_ (ld_blt I hg hm boot_len (callWith_builtin1 (args_cons ?_ rfl) rfl rfl))
  refine Call_ (ld_blt I hg2 hm2 boot_set (callWith_type1 (args_cons (thn (ha.run pins s σ H _ I h) fun v s1 ⟨x, H1, I1, r1, l, xs, e, hq, ht, nd, l4, q1⟩ => args_nil ?_) na) na rfl))
  subst e
  cases r1
  obtain ⟨its, r, pl, _⟩ := I1.list hq
  refine set_list (I1.ok.hd hc) pl.isList (refs_of (by simpa using r)) (fun e he => tx_of I1 (ht e he)) nd l4 hu fun h' tk g hk => ?_
  obtain ⟨L, es, ep, t, R, pm⟩ := g
  have hn := R.sz (s := { s1 with heap := h', toks := tk })
  rw [pm.length_eq, List.length_take, Nat.min_self] at hn
  have hf := R.fits (s := { s1 with heap := h', toks := tk })
  obtain ⟨o, ho, hex, hd⟩ := R.ob
  have I2 : Inv X pins σ H1 { s1 with heap := h', toks := tk } := I1.kept fun b o e => hk b o (Heap.lt_size e) e
  exact args_nil (call_len_set ho hex hd hf (by rw [hn]; omega) ⟨.int xs.length, H1, I2.tok _, ⟨_, by rw [hn]⟩, q1⟩)
end Tt
/-! ### {**e, **f} -/
namespace Dm
open PySem PySem.Spec PyProof.Rows L2
section
variable {X : Cx} {pos : Pos} {e f : Expr} {te tf : TE}
def tDss (te tf : TE) : TE := fun σ H Q => ∀ d, H d = none → te σ (upd H d (.dK [])) fun x H1 => ∃ o kvs, x = .ref o ∧ H1 d = some (.dK []) ∧ H1 o = some (.dK kvs) ∧ d ≠ o ∧ kvs.length ≤ 1000 ∧
  tf σ (upd H1 d (.dK (mergeK [] kvs))) fun y H2 => ∃ o2 more, y = .ref o2 ∧ H2 d = some (.dK (mergeK [] kvs)) ∧ H2 o2 = some (.dK more) ∧ d ≠ o2 ∧ more.length ≤ 1000 ∧ Q (.ref d) (upd H2 d (.dK (mergeK (mergeK [] kvs) more)))
theorem pe_dss (he : PE X e te) (hf : PE X f tf) : PE X (.Dict [none, none] [e, f] pos) (tDss te tf) := by
  constructor
  intro pins s σ H Q I q
  rw [arm_eval_Dict]
  refine wpAny_bind (wpAny_standAt ?_)
  show wpAny _ _ (dictDisplay [(none, do let x ← eval e X.env; standAt pos; pure x), (none, do let x ← eval f X.env; standAt pos; pure x)]) _ _ s
  unfold dictDisplay
  simp only [List.forIn_cons, List.forIn_nil, List.isEmpty_nil, if_true, pure_bind, bind_assoc]
  have hn := I.hok.fresh (Nat.le_refl s.heap.objs.size)
  have J1 := I.laid (a := s.heap.objs.size) (o := .dK []) (h' := s.heap.push { cls := .type "dict", data := .dict #[] }) (t' := s.toks) (fun _ _ z => Heap.get?_push_of_some _ z) (Nat.le_refl _) (dk_empty s.heap I.big)
  refine wpAny_bind (wpAny_alloc (wpAny_bind (wpAny_holding (wpAny_bind (thn (he.run pins _ σ _ _ J1 (q _ hn)) fun u s1 hq => wpAny_bind (wpAny_standAt (wpAny_pure ?_)))))))
  obtain ⟨x, H1, J2, rx, o, kvs, rfl, hd, ho, ne, hz, q2⟩ := hq
  obtain rfl : u = Value.ref o := rx
  have lm := length_mergeK kvs []
  rw [List.length_nil] at lm
  refine wpAny_bind (wpAny_onRaise (wpAny_tryCatch (wpAny_onRaise (wpAny_holding (merge_inv J2 hd ho ne (by rw [List.length_nil, sizeLine_eq]; omega) fun s2 J3 => ?_)))))
  refine wpAny_bind (wpAny_holding (wpAny_bind (thn (hf.run pins _ σ _ _ J3 q2) fun u2 s3 hq2 => wpAny_bind (wpAny_standAt (wpAny_pure ?_)))))
  obtain ⟨y, H2, J4, ry, o2, more, rfl, hd2, ho2, ne2, hz2, q3⟩ := hq2
  obtain rfl : u2 = Value.ref o2 := ry
  refine wpAny_bind (wpAny_onRaise (wpAny_tryCatch (wpAny_onRaise (wpAny_holding (merge_inv J4 hd2 ho2 ne2 (by rw [sizeLine_eq]; omega) fun s4 J5 => ?_)))))
  exact wpAny_pure ⟨.ref s.heap.objs.size, _, J5, rfl, q3⟩
end
end Dm
/-! ### o.m(e, .., k = v): a method with a keyword -/
namespace Mk
open PySem PySem.Spec PyProof.Rows L2
section
variable {K : PySem.W.Frag} {x qual : Str} {params : Arguments} {body : List Stmt} {scope : Scope} {kws : List (Str × V)} {f : Addr} {fd : FuncData} {ps : List Str}
theorem kbindsN (F : FunD K x qual params body scope [] kws f fd) (n : Nat) (ks : List Str)
    (h : ∀ (kV doc pm : Value) (an : Option Addr) (cdv ct : Value) (us ws : List Value), us.length = n → ws.length = ks.length → bindArgs (PySem.W.fnOf x qual params body scope .none kV doc pm an cdv ct) ⟨us, ks.zip ws⟩ = pure (ps.zip (us ++ ws))) :
    KBn K fd ps n ks (fun us ws => us ++ ws) (fun vs zs => vs ++ zs) := by
  obtain ⟨oc, od, dV, kV, doc, pm, an, cdv, ct, osl, rfl, lk, hcd, hD, hK⟩ := F.ex
  rcases hD with ⟨_, rfl⟩ | ⟨e, _⟩
  · exact ⟨fun s us ws X l1 l2 => .of_eq (h kV doc pm an cdv ct us ws l1 l2), fun r1 r2 => r1.append r2⟩
  · exact absurd rfl e
end
structure MetP (P : Program) (w : World) (K : PySem.W.Frag) (mg : Str → Option Value) (base : Heap) (k : Nat) (C : Addr) (m : Str) (n : Nat) (ks : List Str) (gV : List V → List V → List V) (sp : Sp) : Prop where
  ex : ∃ (f : Addr) (fd : FuncData) (ps : List Str) (g : List Value → List Value → List Value), Cls K C ∧ Meth K C m f ∧ FnOk P w K mg base C8.CX0 k f fd ps sp ∧ KBn K fd ps (n + 1) ks g gV
def tMethP (C : Addr) (m : Str) (n j : Nat) (sp : Sp) (gV : List V → List V → List V) (ta : TE) (t tk : TA) : TE := fun σ H Q => ta σ H fun x H1 => ∃ a dx fs, x = .ref a ∧ H1 a = some (.ins C dx fs) ∧ fs.lookup m = none ∧
  t σ H1 fun vs H2 => tk σ H2 fun zs H3 => vs.length = n ∧ zs.length = j ∧ sp (gV (x :: vs) zs) H3 Q C8.E0
section
variable {X : Cx} {k j n : Nat} {m : Str} {sp : Sp} {ks : List Str} {gV : List V → List V → List V} {p pos apos : Pos} {kws : List Keyword} {t tk : TA} {C f : Addr} {e o : Expr} {es : List Expr} {ta : TE}
theorem pe_mtp {pl : Sem Bool} (c : MetP X.prog X.w X.K X.mg X.base k C m n ks gV sp) (hr : Room j X.A) (hk : k ≤ j) (he : PE X o ta) (ha : PA X (e :: es) t) (hkw : PK X kws tk)
    (hall : (backToKw pos (keywordEach kws X.env)).all (·.1.isSome) = true := by rfl) (hks : (backToKw pos (keywordEach kws X.env)).filterMap (·.1) = ks := by rfl)
    (hst : starEach (e :: es) X.env = (false, eval e X.env) :: starEach es X.env := by rfl) (hpl : ((backTo pos (starEach (e :: es) X.env)).any (·.1) || (backToKw pos (keywordEach kws X.env)).any (·.1.isNone)) = false := by rfl)
    (ht : eval (.Call (.Attribute o m apos) (e :: es) kws pos) X.env = (do
      let ov ← eval o X.env
      standAt apos.atName
      let (f, first) ← holding [ov] (getMethod ov m pl)
      callWith pos f first (backTo pos (starEach (e :: es) X.env)) (backToKw pos (keywordEach kws X.env))) := by rfl) :
    PE X (.Call (.Attribute o m apos) (e :: es) kws pos) (tMethP C m n ks.length sp gV ta t tk) := by
  obtain ⟨f, fd, ps, g, c1, hm, F, hb⟩ := c.ex
  have hx : Passes C8.CX0 X C8.E0 := C8.pass0
  refine ⟨fun pins s σ H Q I h => ?_⟩
  refine PySem.W.methodCall_KW (pl := pl) (thn (he.run pins s σ H _ I h) fun u s1 ⟨x, H1, I1, rx, a, dx, fs, ex, ea, l, q⟩ => ?_) ht
  subst ex
  obtain rfl : u = Value.ref a := rx
  refine getmeth_ok I1 ea c1 hm l ?_
  refine PySem.W.callWith_KW (first := [.ref a]) (h₀ := X.base) I.ok.mod.kin hm.kp hall (thn (ha.run pos pins s1 σ H1 _ I1 q) fun us s2 ⟨vs, H2, I2, r, q2⟩ => ?_) hpl hst
  refine thn (hkw.run pos pins s2 σ H2 _ I2 q2) fun ws s3 ⟨zs, H3, I3, rz, l1, l2, q3⟩ => ⟨I3.kIn, ?_⟩
  rw [hks]
  have r1 : Vals (V.ref a :: vs) (Value.ref a :: us) := .cons rfl r
  have hl1 : (Value.ref a :: us).length = n + 1 := by rw [← r1.length]; show vs.length + 1 = _; rw [l1]
  have hl2 : ws.length = ks.length := by rw [← rz.length, l2]
  refine wpAny_call (codeAny_mono (F.run X.A X.stack s3 H3 ⟨Value.ref a :: us, ks.zip ws⟩ (g (Value.ref a :: us) ws) (gV (V.ref a :: vs) zs) Q C8.E0 (hr.mono hk) I3.env0 (hb.to s3 _ ws I3.kIn hl1 hl2) (hb.rel r1 rz) q3) fun r s' hq => ?_)
  cases r with
  | error e => exact hx pins σ H3 s3 e s' I3 hq
  | ok fl =>
    cases fl with
    | ret u => exact I3.after hq
    | next => exact False.elim hq
    | brk => exact False.elim hq
    | cont => exact False.elim hq
end
end Mk
namespace Bs
open PySem PySem.Spec PyProof.Rows L2 SX
variable {P : Program} {w : World} {K : PySem.W.Frag} {mg : Str → Option Value} {base : Heap}
/-! ### a step: its word, its columns, its measures, how deep its columns are -/
structure Stp where
  kd : List Nat
  cs : List (List Nat)
  ms : List (List Nat)
  ds : List (List Nat × Nat)
abbrev dV (ds : List (List Nat × Nat)) : List (Key × V) := ds.map fun p => (Sum.inr (S p.1), .int (p.2 : Nat))
structure OkS (st : Stp) : Prop where
  nd : st.cs.Nodup
  ln : st.cs.length ≤ 60
  ms : ∀ c ∈ st.ms, c ∈ st.cs
  nm : st.ms.Nodup
  dp : ∀ c ∈ st.cs, c ∉ st.ms → ∃ n, st.ds.lookup c = some n ∧ n ≤ 3
  dn : (st.ds.map (·.1)).Nodup
  dl : st.ds.length ≤ 60
  nc : ∀ c ∈ st.cs, Nm c
  dk : ∀ c ∈ st.ds.map (·.1), c ∈ st.cs
/-- the fields of a step -/
def stf (kd : List Nat) (i c m d : Addr) (t nm nw : V) (na pa su : Addr) : List (Str × V) :=
  putF "sums" (.ref su) (putF "pairs" (.ref pa) (putF "named" (.ref na) (putF "new" nw (putF "name" nm (putF "table" t (putF "depths" (.ref d) (putF "measures" (.ref m) (putF "columns" (.ref c) (putF "inputs" (.ref i) (putF "kind" (.str (S kd)) []))))))))))
abbrev stN : List Str := ["kind", "inputs", "columns", "measures", "depths", "table", "name", "new", "named", "pairs", "sums"]
theorem stf_no {kd : List Nat} {i c m d : Addr} {t nm nw : V} {na pa su : Addr} {x : Str} (h : x ∉ stN) : (stf kd i c m d t nm nw na pa su).lookup x = none := by
  simp only [List.mem_cons, List.mem_nil_iff, or_false, not_or] at h
  obtain ⟨h1, h2, h3, h4, h5, h6, h7, h8, h9, h10, h11⟩ := h
  unfold stf
  rw [lookup_putF, if_neg h11, lookup_putF, if_neg h10, lookup_putF, if_neg h9, lookup_putF, if_neg h8, lookup_putF, if_neg h7, lookup_putF, if_neg h6, lookup_putF, if_neg h5, lookup_putF, if_neg h4, lookup_putF, if_neg h3, lookup_putF, if_neg h2, lookup_putF, if_neg h1]
  rfl
structure SFl (fs : List (Str × V)) (kd : List Nat) (i c m d : Addr) : Prop where
  k : fs.lookup ("kind" : Str) = some (.str (S kd))
  i : fs.lookup ("inputs" : Str) = some (.ref i)
  c : fs.lookup ("columns" : Str) = some (.ref c)
  m : fs.lookup ("measures" : Str) = some (.ref m)
  d : fs.lookup ("depths" : Str) = some (.ref d)
  no : ∀ x, x ∉ stN → fs.lookup x = none
theorem stf_fl {kd : List Nat} {i c m d : Addr} {t nm nw : V} {na pa su : Addr} : SFl (stf kd i c m d t nm nw na pa su) kd i c m d := by
  refine ⟨?_, ?_, ?_, ?_, ?_, fun x h => stf_no h⟩
  all_goals
    unfold stf
    repeat (first | rw [lookup_putF, if_pos rfl] | rw [lookup_putF, if_neg (by decide +kernel)])
/-- a step that stands and never changes; ins: what its inputs are -/
structure StAt (K : PySem.W.Frag) (C : Addr) (G : Hp) (a : Addr) (st : Stp) (ins : List V) : Prop where
  ex : ∃ (dx i c m d : Addr) (fs : List (Str × V)), G a = some (.ins C dx fs) ∧ SFl fs st.kd i c m d ∧ G i = some (.tup ins) ∧ G c = some (.lst (sV st.cs)) ∧ G m = some (.lst (sV st.ms)) ∧ G d = some (.dK (dV st.ds))
theorem StAt.same {C : Addr} {G H : Hp} {a : Addr} {st : Stp} {ins : List V} (h : StAt K C G a st ins) (s : Same G H) : StAt K C H a st ins := by
  obtain ⟨dx, i, c, m, d, fs, h1, h2, h3, h4, h5, h6⟩ := h.ex
  exact ⟨dx, i, c, m, d, fs, s _ _ h1, h2, s _ _ h3, s _ _ h4, s _ _ h5, s _ _ h6⟩
theorem dV_len (ds : List (List Nat × Nat)) : (dV ds).length = ds.length := List.length_map _
theorem dV_get : ∀ {ds : List (List Nat × Nat)} {c : List Nat} {n : Nat}, ds.lookup c = some n → valV (dV ds) (Sum.inr (S c)) = some (.int (n : Nat))
  | [], _, _, h => by cases h
  | (k, m) :: r, c, n, h => by
    show valV ((Sum.inr (S k), V.int (m : Nat)) :: dV r) _ = _
    by_cases e : c = k
    · subst e
      rw [List.lookup_cons, beq_self_eq_true] at h
      cases h
      exact valV_pos rfl
    · rw [List.lookup_cons, beq_false_of_ne e] at h
      rw [valV_neg fun z => e (S_inj (Sum.inr.inj z)).symm]
      exact dV_get h
theorem dV_at {ds : List (List Nat × Nat)} {i : Nat} {k : Key} {v : V} (h : (dV ds)[i]? = some (k, v)) : ∃ c n, ds[i]? = some (c, n) ∧ k = Sum.inr (S c) ∧ v = .int (n : Nat) := by
  rw [List.getElem?_map] at h
  cases e : ds[i]? with
  | none => rw [e] at h; cases h
  | some p =>
    rw [e] at h
    obtain ⟨h1, h2⟩ := Prod.mk.inj (Option.some.inj h)
    exact ⟨p.1, p.2, rfl, h1.symm, h2.symm⟩
theorem dV_take {ds : List (List Nat × Nat)} {i : Nat} {c : List Nat} {n : Nat} (h : ds[i]? = some (c, n)) (nd : (ds.map (·.1)).Nodup) : putK (dV (ds.take i)) (Sum.inr (S c)) (.int (n : Nat)) = dV (ds.take (i + 1)) := by
  have e : ds.take (i + 1) = ds.take i ++ [(c, n)] := by rw [List.take_succ, h]; rfl
  have nv : valV (dV (ds.take i)) (Sum.inr (S c)) = none := by
    have hn : (((ds.take (i + 1)).map (·.1))).Nodup := by
      rw [List.map_take]
      exact nd.sublist (List.take_sublist _ _)
    rw [e, List.map_append, List.nodup_append] at hn
    have hno : c ∉ (ds.take i).map (·.1) := fun z => hn.2.2 _ z _ (by simp) rfl
    clear hn e h nd
    generalize ds.take i = xs at hno ⊢
    induction xs with
    | nil => rfl
    | cons p r ih =>
      rw [List.map_cons, List.mem_cons, not_or] at hno
      show valV ((Sum.inr (S p.1), V.int (p.2 : Nat)) :: dV r) _ = none
      rw [valV_neg fun z => hno.1 (S_inj (Sum.inr.inj z)).symm]
      exact ih hno.2
  rw [putK_new _ nv, e]
  simp
end Bs
namespace Bs
open PySem PySem.Spec PyProof.Rows L2 SX
variable {P : Program} {w : World} {K : PySem.W.Frag} {mg : Str → Option Value} {base : Heap}
def spSInit (K : PySem.W.Frag) (C : Addr) : Sp := fun vs H Q _ => ∃ (G : Hp) (p dx ia ca ma da na pa su : Addr) (st : Stp) (ins nl pl ul : List V) (t : V) (nm nw : Str), vs = [.ref p, .str (S st.kd), .ref ia, .ref ca, .ref ma, .ref da, t, .str nm, .str nw, .ref na, .ref pa, .ref su] ∧ Same G H ∧ G p = none ∧ H p = some (.ins C dx []) ∧
  G ia = some (.tup ins) ∧ Sq K H ca (sV st.cs) ∧ SqL K H ma (sV st.ms) ∧ H da = some (.dK (dV st.ds)) ∧ (st.ds.map (·.1)).Nodup ∧ st.ds.length ≤ 1000 ∧ Sq K H na nl ∧ Sq K H pa pl ∧ Sq K H su ul ∧
  ∀ (G' H' : Hp) (i c m d n p' u : Addr), Step (some p) G H G' H' → G' p = none → H' p = some (.ins C dx (stf st.kd i c m d t (.str nm) (.str nw) n p' u)) → G' i = some (.tup ins) → G' c = some (.lst (sV st.cs)) → G' m = some (.lst (sV st.ms)) → G' d = some (.dK (dV st.ds)) → Q .non H'
/-- the object under way at p, all else as it was told -/
theorem fldA {C dx : Addr} {p : Addr} {G H G1 H1 : Hp} {fs : List (Str × V)} (f : Str) (v : V) (s : Step (some p) G H G1 H1) (gp : G1 p = none) (hp : H1 p = some (.ins C dx fs)) : Step (some p) G H G1 (upd H1 p (.ins C dx (putF f v fs))) := s.atP gp
/-- a new list of the things of another one -/
theorem newA {C dx p l : Addr} {G H G1 H1 : Hp} {fs : List (Str × V)} {o : HO} (s : Step (some p) G H G1 H1) (gp : G1 p = none) (hp : H1 p = some (.ins C dx fs)) (hl : H1 l = none) :
    Step (some p) G H (upd G1 l o) (upd H1 l o) ∧ (upd G1 l o) p = none ∧ (upd H1 l o) p = some (.ins C dx fs) ∧ Same G1 (upd G1 l o) ∧ (upd G1 l o) l = some o := by
  have ne : p ≠ l := fun e => by rw [← e, hp] at hl; cases hl
  exact ⟨s.new1 hl, by rw [upd_ne ne]; exact gp, by rw [upd_ne ne]; exact hp, Same.new (Same.refl G1) (s.gh.free hl), upd_same⟩
theorem lookup_at : ∀ {ds : List (List Nat × Nat)} {i : Nat} {c : List Nat} {n : Nat}, ds[i]? = some (c, n) → (ds.map (·.1)).Nodup → ds.lookup c = some n
  | [], _, _, _, h, _ => by cases h
  | (k, m) :: r, 0, c, n, h, _ => by
    cases h
    rw [List.lookup_cons, beq_self_eq_true]
  | (k, m) :: r, i + 1, c, n, h, nd => by
    rw [List.map_cons, List.nodup_cons] at nd
    have hm : c ∈ r.map (·.1) := List.mem_map.mpr ⟨(c, n), List.mem_of_getElem? h, rfl⟩
    rw [List.lookup_cons, beq_false_of_ne fun (e : c = k) => nd.1 (e ▸ hm)]
    exact lookup_at h nd.2
theorem sq_stp {C dx p a : Addr} {G H G1 H1 : Hp} {fs : List (Str × V)} {xs : List V} (h : Sq K H a xs) (s : Step (some p) G H G1 H1) (hp : H p = some (.ins C dx fs)) : Sq K H1 a xs := by
  have k : ∀ {o : HO}, H a = some o → (∀ c d f, o ≠ .ins c d f) → H1 a = some o := fun {o} e n => s.kpc _ _ e (ne_of e hp (n _ _ _))
  rcases h with ((h | ⟨u, h⟩) | h) | ((h | ⟨u, h⟩) | h)
  · exact .inl (.inl (.inl (k h (fun _ _ _ z => by cases z))))
  · exact .inl (.inl (.inr ⟨u, k h (fun _ _ _ z => by cases z)⟩))
  · exact .inl (.inr h)
  · exact .inr (.inl (.inl (k h (fun _ _ _ z => by cases z))))
  · exact .inr (.inl (.inr ⟨u, k h (fun _ _ _ z => by cases z)⟩))
  · exact .inr (.inr h)
theorem upd_back {H : Hp} {a D : Addr} {u x o : HO} (h : H a = some u) (ne : D ≠ a) : upd (upd (upd H a x) D o) a u = upd H D o := by
  funext b
  by_cases e1 : b = a
  · rw [e1, upd_same, upd_ne ne.symm, h]
  · rw [upd_ne e1]
    by_cases e2 : b = D
    · rw [e2, upd_same, upd_same]
    · rw [upd_ne e2, upd_ne e2, upd_ne e1]
theorem putF_le2 {f : Str} {v : V} {fs : List (Str × V)} {n : Nat} (h : fs.length ≤ n) : (putF f v fs).length ≤ n + 1 := Nat.le_trans (putF_le _ _ _) (by omega)
end Bs
namespace Pf
open PySem PySem.Spec PyProof.Rows L2 Bs SX
variable {P : Program} {w : World} {K : PySem.W.Frag} {mg : Str → Option Value} {base : Heap}
abbrev CSt (K : PySem.W.Frag) : Addr := He.ga K "Step"
abbrev N_Step_init : List Str := ["self", "kind", "inputs", "columns", "measures", "depths", "table", "name", "new", "named", "pairs", "sums", "column"]
theorem sc_Step_init : FnScope N_Step_init ["self", "kind", "inputs", "columns", "measures", "depths", "table", "name", "new", "named", "pairs", "sums"] (defScope s_Step_init) := ⟨rfl, rfl, rfl, by decide +kernel, rfl, by decide +kernel, by decide +kernel⟩
theorem o_sinit (T : Tx K mg) : ∃ fd, FnOk P w K mg base C8.CX0 1 (He.ma K (CSt K) "__init__") fd ["self", "kind", "inputs", "columns", "measures", "depths", "table", "name", "new", "named", "pairs", "sums"] (spSInit K (CSt K)) ∧ FunD K d_Step_init.2.name d_Step_init.2.qual d_Step_init.2.params d_Step_init.2.body d_Step_init.2.scope (d_Step_init.2.dvs K) (d_Step_init.2.kws K) (d_Step_init.1 K) fd := by
  obtain ⟨fd, F⟩ := f_Step_init T
  refine ⟨fd, ok0' F sc_Step_init (fun vs H Q E h => ?_) (fun cdv A outer s H vs Q E hr h => ?_), F⟩
  · obtain ⟨G, p, dx, ia, ca, ma, da, na, pa, su, st, ins, nl, pl, ul, t, nm, nw, rfl, _⟩ := h
    rfl
  obtain ⟨G, p, dx, ia, ca, ma, da, na, pa, su, st, ins, nl, pl, ul, t, nm, nw, rfl, hG, gp, hp, gi, hc, hm, hd, dn, dl, hn, hpa, hsu, q⟩ := h
  have C0 := cls_Step_ T
  have hu := hu_of hr
  have sl : sizeLine = 16777216 := rfl
  refine ⟨_, (pss_cons (ps_fld (pv 0) (pv 1) rfl)
    (pss_cons (ps_fld (pv 0) (pe_callTy call_tuple_of (by rfl) (z_tuple T) boot_tuple (pa_cons (pv 2) pa_nil)) rfl)
    (pss_cons (ps_fld (pv 0) (pe_callTy call_list_of (by rfl) (z_list T) boot_list (pa_cons (pv 3) pa_nil)) rfl)
    (pss_cons (ps_fld (pv 0) (pe_callTy call_list_of (by rfl) (z_list T) boot_list (pa_cons (pv 4) pa_nil)) rfl)
    (pss_cons (ps_fld (pv 0) (pe_lock (pe_dc (own := [("column", 12)]) rfl sc_Step_init.nd (pi_keys (pv 5)) (blkOk_by (N := N_Step_init) (sc := defScope s_Step_init) (by decide +kernel)) (fun _ _ _ _ _ => (pg_name (i := 12) sc_Step_init.nd rfl (Or.inl rfl))) (fun _ _ _ _ _ => pts_nil) (fun _ _ _ _ _ => (pv 12)) (fun _ _ _ _ _ => (pe_dget hu (pv 5) (pv 12) (fun _ _ => rfl))))) rfl)
    (pss_cons (ps_fld (pv 0) (pv 6) rfl)
    (pss_cons (ps_fld (pv 0) (pv 7) rfl)
    (pss_cons (ps_fld (pv 0) (pv 8) rfl)
    (pss_cons (ps_fld (pv 0) (pe_callTy call_list_of (by rfl) (z_list T) boot_list (pa_cons (pv 9) pa_nil)) rfl)
    (pss_cons (ps_fld (pv 0) (pe_callTy call_list_of (by rfl) (z_list T) boot_list (pa_cons (pv 10) pa_nil)) rfl)
    (pss_one (ps_fld (pv 0) (pe_callTy call_list_of (by rfl) (z_list T) boot_list (pa_cons (pv 11) pa_nil)) rfl)))))))))))), ?_⟩
  have npd : da ≠ p := fun e => by rw [e, hp] at hd; cases hd
  have s0 : Step (some p) G H G H := Step.refl hG
  have kg0 : Same G G := Same.refl G
  -- kind
  refine ⟨_, rfl, _, rfl, p, CSt K, dx, _, rfl, hp, C0, noat_Step_kind T, by show 0 < 1000; decide, ?_⟩
  have s1 : Step (some p) G H G (upd H p (.ins (CSt K) dx (putF "kind" (V.str (S st.kd)) []))) := (s0).atP gp
  have hp1 : upd H p (.ins (CSt K) dx (putF "kind" (V.str (S st.kd)) [])) p = some (.ins (CSt K) dx (putF "kind" (V.str (S st.kd)) [])) := upd_same
  have l1 : (putF "kind" (V.str (S st.kd)) []).length ≤ 1 := putF_le _ _ _
  have fe1 : putF "kind" (V.str (S st.kd)) [] = putF "kind" (V.str (S st.kd)) [] := rfl
  generalize upd H p (.ins (CSt K) dx (putF "kind" (V.str (S st.kd)) [])) = H1 at *
  generalize hf1 : putF "kind" (V.str (S st.kd)) [] = f1 at s1 hp1 l1 ⊢
  have gp1 := gp
  have kg1 := kg0
  -- inputs
  refine ⟨_, rfl, ia, _, rfl, .inr ⟨SqT.of (s1.gh _ _ gi), ?_⟩⟩
  refine ⟨_, rfl, p, CSt K, dx, _, rfl, hp1, C0, noat_Step_inputs T, by omega, ?_⟩
  have s2 : Step (some p) G H G (upd H1 p (.ins (CSt K) dx (putF "inputs" (.ref ia) f1))) := (s1).atP gp1
  have hp2 : upd H1 p (.ins (CSt K) dx (putF "inputs" (.ref ia) f1)) p = some (.ins (CSt K) dx (putF "inputs" (.ref ia) f1)) := upd_same
  have l2 : (putF "inputs" (.ref ia) f1).length ≤ 2 := putF_le2 l1
  have fe2 : putF "inputs" (.ref ia) f1 = putF "inputs" (.ref ia) f1 := rfl
  generalize upd H1 p (.ins (CSt K) dx (putF "inputs" (.ref ia) f1)) = H2 at *
  generalize hf2 : putF "inputs" (.ref ia) f1 = f2 at s2 hp2 l2 ⊢
  have gp2 := gp1
  have kg2 := kg1
  -- columns
  refine ⟨_, rfl, ca, _, rfl, sq_stp hc s2 hp, fun c hc => ?_⟩
  obtain ⟨t2, gq2, hq2, kq2, hgc⟩ := newA (o := .lst (sV st.cs)) s2 gp2 hp2 hc
  have kg3 := kg2.trans kq2
  generalize upd G c (.lst (sV st.cs)) = G3 at t2 gq2 kq2 hgc kg3
  generalize upd H2 c (.lst (sV st.cs)) = W2 at *
  refine ⟨_, rfl, p, CSt K, dx, _, rfl, hq2, C0, noat_Step_columns T, by omega, ?_⟩
  have s3 : Step (some p) G H G3 (upd W2 p (.ins (CSt K) dx (putF "columns" (.ref c) f2))) := (t2).atP gq2
  have hp3 : upd W2 p (.ins (CSt K) dx (putF "columns" (.ref c) f2)) p = some (.ins (CSt K) dx (putF "columns" (.ref c) f2)) := upd_same
  have l3 : (putF "columns" (.ref c) f2).length ≤ 3 := putF_le2 l2
  have fe3 : putF "columns" (.ref c) f2 = putF "columns" (.ref c) f2 := rfl
  generalize upd W2 p (.ins (CSt K) dx (putF "columns" (.ref c) f2)) = H3 at *
  generalize hf3 : putF "columns" (.ref c) f2 = f3 at s3 hp3 l3 ⊢
  have gp3 := gq2
  -- measures
  refine ⟨_, rfl, ma, _, rfl, sq_stp (.inl hm) s3 hp, fun m hm => ?_⟩
  obtain ⟨t3, gq3, hq3, kq3, hgm⟩ := newA (o := .lst (sV st.ms)) s3 gp3 hp3 hm
  have kg4 := kg3.trans kq3
  generalize upd G3 m (.lst (sV st.ms)) = G4 at t3 gq3 kq3 hgm kg4
  generalize upd H3 m (.lst (sV st.ms)) = W3 at *
  have hgc := kq3 _ _ hgc
  refine ⟨_, rfl, p, CSt K, dx, _, rfl, hq3, C0, noat_Step_measures T, by omega, ?_⟩
  have s4 : Step (some p) G H G4 (upd W3 p (.ins (CSt K) dx (putF "measures" (.ref m) f3))) := (t3).atP gq3
  have hp4 : upd W3 p (.ins (CSt K) dx (putF "measures" (.ref m) f3)) p = some (.ins (CSt K) dx (putF "measures" (.ref m) f3)) := upd_same
  have l4 : (putF "measures" (.ref m) f3).length ≤ 4 := putF_le2 l3
  have fe4 : putF "measures" (.ref m) f3 = putF "measures" (.ref m) f3 := rfl
  generalize upd W3 p (.ins (CSt K) dx (putF "measures" (.ref m) f3)) = H4 at *
  generalize hf4 : putF "measures" (.ref m) f3 = f4 at s4 hp4 l4 ⊢
  have gp4 := gq3
  -- depths
  have hd4 := s4.kpc _ _ hd npd
  refine ⟨da, _, hd4, True.intro, fun od => ?_⟩
  refine ⟨_, rfl, da, od, rfl, .inl ⟨_, upd_same, fun D hD => ?_⟩⟩
  have nDa : D ≠ da := fun e => by rw [e, upd_same] at hD; cases hD
  have hD0 : H4 D = none := by rw [upd_ne nDa] at hD; exact hD
  refine Dm.dc_keys (d := da) (o := od) (xs := dV st.ds) (fun i H' => H' = upd (upd H4 da (.frz od (.dK (dV st.ds)))) D (.dK (dV (st.ds.take i)))) rfl ?_ ?_ ?_
  · rintro i H' rfl
    rw [upd_ne nDa.symm, upd_same]
  · rintro i ky v H' hx rfl
    obtain ⟨cn, nn, hi, rfl, rfl⟩ := dV_at hx
    have hil := (List.getElem?_eq_some_iff.mp hi).1
    refine ⟨rfl, ?_⟩
    unfold tYes
    have hv : some (V.int (nn : Nat)) = valV (dV st.ds) (Sum.inr (S cn)) := (dV_get (lookup_at hi dn)).symm
    refine iteT ⟨_, rfl, _, rfl, _, rfl, da, _, rfl, .inl ⟨dV st.ds, Sum.inr (S cn), .inr ⟨od, by rw [upd_ne nDa.symm, upd_same]⟩, rfl, hv⟩, _, _, rfl, upd_same, ?_, ?_⟩
    · rw [dV_len, List.length_take]; omega
    · rw [upd_upd, dV_take hi dn]
  rintro H' rfl
  refine ⟨by rw [upd_ne nDa.symm, upd_same], ?_⟩
  rw [dV_len, List.take_length, upd_back hd4 nDa]
  obtain ⟨t4, gq4, hq4, kq4, hgd⟩ := newA (o := .dK (dV st.ds)) s4 gp4 hp4 hD0
  have kg5 := kg4.trans kq4
  generalize upd G4 D (.dK (dV st.ds)) = G5 at t4 gq4 kq4 hgd kg5
  generalize upd H4 D (.dK (dV st.ds)) = W4 at *
  have hgc := kq4 _ _ hgc
  have hgm := kq4 _ _ hgm
  refine ⟨_, rfl, p, CSt K, dx, _, rfl, hq4, C0, noat_Step_depths T, by omega, ?_⟩
  have s5 : Step (some p) G H G5 (upd W4 p (.ins (CSt K) dx (putF "depths" (.ref D) f4))) := (t4).atP gq4
  have hp5 : upd W4 p (.ins (CSt K) dx (putF "depths" (.ref D) f4)) p = some (.ins (CSt K) dx (putF "depths" (.ref D) f4)) := upd_same
  have l5 : (putF "depths" (.ref D) f4).length ≤ 5 := putF_le2 l4
  have fe5 : putF "depths" (.ref D) f4 = putF "depths" (.ref D) f4 := rfl
  generalize upd W4 p (.ins (CSt K) dx (putF "depths" (.ref D) f4)) = H5 at *
  generalize hf5 : putF "depths" (.ref D) f4 = f5 at s5 hp5 l5 ⊢
  have gp5 := gq4
  -- table
  refine ⟨_, rfl, _, rfl, p, CSt K, dx, _, rfl, hp5, C0, noat_Step_table T, by omega, ?_⟩
  have s6 : Step (some p) G H G5 (upd H5 p (.ins (CSt K) dx (putF "table" t f5))) := (s5).atP gp5
  have hp6 : upd H5 p (.ins (CSt K) dx (putF "table" t f5)) p = some (.ins (CSt K) dx (putF "table" t f5)) := upd_same
  have l6 : (putF "table" t f5).length ≤ 6 := putF_le2 l5
  have fe6 : putF "table" t f5 = putF "table" t f5 := rfl
  generalize upd H5 p (.ins (CSt K) dx (putF "table" t f5)) = H6 at *
  generalize hf6 : putF "table" t f5 = f6 at s6 hp6 l6 ⊢
  have gp6 := gp5
  have kg6 := kg5
  -- name
  refine ⟨_, rfl, _, rfl, p, CSt K, dx, _, rfl, hp6, C0, noat_Step_name T, by omega, ?_⟩
  have s7 : Step (some p) G H G5 (upd H6 p (.ins (CSt K) dx (putF "name" (.str nm) f6))) := (s6).atP gp6
  have hp7 : upd H6 p (.ins (CSt K) dx (putF "name" (.str nm) f6)) p = some (.ins (CSt K) dx (putF "name" (.str nm) f6)) := upd_same
  have l7 : (putF "name" (.str nm) f6).length ≤ 7 := putF_le2 l6
  have fe7 : putF "name" (.str nm) f6 = putF "name" (.str nm) f6 := rfl
  generalize upd H6 p (.ins (CSt K) dx (putF "name" (.str nm) f6)) = H7 at *
  generalize hf7 : putF "name" (.str nm) f6 = f7 at s7 hp7 l7 ⊢
  have gp7 := gp6
  have kg7 := kg6
  -- new
  refine ⟨_, rfl, _, rfl, p, CSt K, dx, _, rfl, hp7, C0, noat_Step_new T, by omega, ?_⟩
  have s8 : Step (some p) G H G5 (upd H7 p (.ins (CSt K) dx (putF "new" (.str nw) f7))) := (s7).atP gp7
  have hp8 : upd H7 p (.ins (CSt K) dx (putF "new" (.str nw) f7)) p = some (.ins (CSt K) dx (putF "new" (.str nw) f7)) := upd_same
  have l8 : (putF "new" (.str nw) f7).length ≤ 8 := putF_le2 l7
  have fe8 : putF "new" (.str nw) f7 = putF "new" (.str nw) f7 := rfl
  generalize upd H7 p (.ins (CSt K) dx (putF "new" (.str nw) f7)) = H8 at *
  generalize hf8 : putF "new" (.str nw) f7 = f8 at s8 hp8 l8 ⊢
  have gp8 := gp7
  have kg8 := kg7
  -- named
  refine ⟨_, rfl, na, _, rfl, sq_stp hn s8 hp, fun n1 hn1 => ?_⟩
  obtain ⟨t8, gq8, hq8, kq8, hgn1⟩ := newA (o := .lst nl) s8 gp8 hp8 hn1
  have kg9 := kg8.trans kq8
  generalize upd G5 n1 (.lst nl) = G9 at t8 gq8 kq8 hgn1 kg9
  generalize upd H8 n1 (.lst nl) = W8 at *
  have hgc := kq8 _ _ hgc
  have hgm := kq8 _ _ hgm
  have hgd := kq8 _ _ hgd
  refine ⟨_, rfl, p, CSt K, dx, _, rfl, hq8, C0, noat_Step_named T, by omega, ?_⟩
  have s9 : Step (some p) G H G9 (upd W8 p (.ins (CSt K) dx (putF "named" (.ref n1) f8))) := (t8).atP gq8
  have hp9 : upd W8 p (.ins (CSt K) dx (putF "named" (.ref n1) f8)) p = some (.ins (CSt K) dx (putF "named" (.ref n1) f8)) := upd_same
  have l9 : (putF "named" (.ref n1) f8).length ≤ 9 := putF_le2 l8
  have fe9 : putF "named" (.ref n1) f8 = putF "named" (.ref n1) f8 := rfl
  generalize upd W8 p (.ins (CSt K) dx (putF "named" (.ref n1) f8)) = H9 at *
  generalize hf9 : putF "named" (.ref n1) f8 = f9 at s9 hp9 l9 ⊢
  have gp9 := gq8
  -- pairs
  refine ⟨_, rfl, pa, _, rfl, sq_stp hpa s9 hp, fun n2 hn2 => ?_⟩
  obtain ⟨t9, gq9, hq9, kq9, hgn2⟩ := newA (o := .lst pl) s9 gp9 hp9 hn2
  have kg10 := kg9.trans kq9
  generalize upd G9 n2 (.lst pl) = G10 at t9 gq9 kq9 hgn2 kg10
  generalize upd H9 n2 (.lst pl) = W9 at *
  have hgc := kq9 _ _ hgc
  have hgm := kq9 _ _ hgm
  have hgd := kq9 _ _ hgd
  have hgn1 := kq9 _ _ hgn1
  refine ⟨_, rfl, p, CSt K, dx, _, rfl, hq9, C0, noat_Step_pairs T, by omega, ?_⟩
  have s10 : Step (some p) G H G10 (upd W9 p (.ins (CSt K) dx (putF "pairs" (.ref n2) f9))) := (t9).atP gq9
  have hp10 : upd W9 p (.ins (CSt K) dx (putF "pairs" (.ref n2) f9)) p = some (.ins (CSt K) dx (putF "pairs" (.ref n2) f9)) := upd_same
  have l10 : (putF "pairs" (.ref n2) f9).length ≤ 10 := putF_le2 l9
  have fe10 : putF "pairs" (.ref n2) f9 = putF "pairs" (.ref n2) f9 := rfl
  generalize upd W9 p (.ins (CSt K) dx (putF "pairs" (.ref n2) f9)) = H10 at *
  generalize hf10 : putF "pairs" (.ref n2) f9 = f10 at s10 hp10 l10 ⊢
  have gp10 := gq9
  -- sums
  refine ⟨_, rfl, su, _, rfl, sq_stp hsu s10 hp, fun n3 hn3 => ?_⟩
  obtain ⟨t10, gq10, hq10, kq10, hgn3⟩ := newA (o := .lst ul) s10 gp10 hp10 hn3
  have kg11 := kg10.trans kq10
  generalize upd G10 n3 (.lst ul) = G11 at t10 gq10 kq10 hgn3 kg11
  generalize upd H10 n3 (.lst ul) = W10 at *
  have hgc := kq10 _ _ hgc
  have hgm := kq10 _ _ hgm
  have hgd := kq10 _ _ hgd
  have hgn1 := kq10 _ _ hgn1
  have hgn2 := kq10 _ _ hgn2
  refine ⟨_, rfl, p, CSt K, dx, _, rfl, hq10, C0, noat_Step_sums T, by omega, ?_⟩
  have s11 : Step (some p) G H G11 (upd W10 p (.ins (CSt K) dx (putF "sums" (.ref n3) f10))) := (t10).atP gq10
  have hp11 : upd W10 p (.ins (CSt K) dx (putF "sums" (.ref n3) f10)) p = some (.ins (CSt K) dx (putF "sums" (.ref n3) f10)) := upd_same
  have l11 : (putF "sums" (.ref n3) f10).length ≤ 11 := putF_le2 l10
  have fe11 : putF "sums" (.ref n3) f10 = putF "sums" (.ref n3) f10 := rfl
  generalize upd W10 p (.ins (CSt K) dx (putF "sums" (.ref n3) f10)) = H11 at *
  generalize hf11 : putF "sums" (.ref n3) f10 = f11 at s11 hp11 l11 ⊢
  have gp11 := gq10
  have gi11 := kg11 _ _ gi
  subst hf1 hf2 hf3 hf4 hf5 hf6 hf7 hf8 hf9 hf10 hf11
  exact q _ _ ia c m D n1 n2 n3 s11 gp11 hp11 gi11 hgc hgm hgd
end Pf
namespace Bs
open PySem PySem.Spec PyProof.Rows L2 SX
variable {P : Program} {w : World} {K : PySem.W.Frag} {mg : Str → Option Value} {base : Heap}
theorem op_notIn_seqK {X : Cx} (hK : X.K = K) : OpR X (compareOp .NotIn) (rIn K true) := by subst hK; exact op_notIn_seq
def spRefuse : Sp := fun vs H Q _ => ∃ r : Str, vs = [.str r, .bl false] ∧ Q .non H
/-- whether one of these columns is (not) there -/
def spStrange (K : PySem.W.Frag) (C : Addr) : Sp := fun vs H Q _ => ∃ (G : Hp) (a c : Addr) (st : Stp) (ins : List V) (xs : List (List Nat)), vs = [.ref a, .ref c] ∧ Same G H ∧ StAt K C G a st ins ∧ Sq K H c (sV xs) ∧ xs.length ≤ 1000 ∧
  ∀ H' : Hp, Step none G H G H' → Q (.bl (xs.any fun x => !decide (x ∈ st.cs))) H'
def spMeasure (K : PySem.W.Frag) (C : Addr) : Sp := fun vs H Q _ => ∃ (G : Hp) (a c : Addr) (st : Stp) (ins : List V) (xs : List (List Nat)), vs = [.ref a, .ref c] ∧ Same G H ∧ StAt K C G a st ins ∧ Sq K H c (sV xs) ∧ xs.length ≤ 1000 ∧
  ∀ H' : Hp, Step none G H G H' → Q (.bl (xs.any fun x => decide (x ∈ st.ms))) H'
/-- these are columns, none of them a measure -/
def Pl (st : Stp) (xs : List (List Nat)) : Prop := ∀ x ∈ xs, x ∈ st.cs ∧ x ∉ st.ms
theorem any_no {xs : List (List Nat)} {f : List Nat → Bool} (h : ∀ x ∈ xs, f x = false) : xs.any f = false := by
  rw [List.any_eq_false]
  intro x hx
  rw [h x hx]
  exact Bool.false_ne_true
theorem Pl.strange {st : Stp} {xs : List (List Nat)} (h : Pl st xs) : (xs.any fun x => !decide (x ∈ st.cs)) = false := any_no fun x hx => by rw [decide_eq_true (h x hx).1]; rfl
theorem Pl.measure {st : Stp} {xs : List (List Nat)} (h : Pl st xs) : (xs.any fun x => decide (x ∈ st.ms)) = false := any_no fun x hx => decide_eq_false (h x hx).2
theorem bl_take {xs : List (List Nat)} {f : List Nat → Bool} {i : Nat} {k : List Nat} (h : xs[i]? = some k) : ((xs.take i).map f).map V.bl ++ [V.bl (f k)] = ((xs.take (i + 1)).map f).map V.bl := by
  rw [List.take_succ, h, List.map_append, List.map_append]
  rfl
theorem sV_at' {ks : List (List Nat)} {i : Nat} {x : V} (h : (sV ks)[i]? = some x) : ∃ k, ks[i]? = some k ∧ x = .str (S k) ∧ i < ks.length := by
  rw [List.getElem?_map, List.getElem?_map] at h
  cases e : ks[i]? with
  | none => rw [e] at h; cases h
  | some k =>
    rw [e] at h
    exact ⟨k, rfl, (Option.some.inj h).symm, (List.getElem?_eq_some_iff.mp e).1⟩
theorem any_id {xs : List (List Nat)} {f : List Nat → Bool} : (xs.map f).any id = xs.any f := by rw [List.any_map]; rfl
theorem Step.all {G H G' H' : Hp} (s : Step none G H G' H') : Same H H' := fun b o e => s.kp b o e (by rintro ⟨⟩)
end Bs
namespace Pf
open PySem PySem.Spec PyProof.Rows L2 Bs SX
variable {P : Program} {w : World} {K : PySem.W.Frag} {mg : Str → Option Value} {base : Heap}
abbrev N_refuse : List Str := ["reason", "wrong"]
theorem sc_refuse : FnScope N_refuse ["reason", "wrong"] (defScope s_refuse) := ⟨rfl, rfl, rfl, by decide +kernel, rfl, by decide +kernel, by decide +kernel⟩
theorem c_refuse (T : Tx K mg) : C8.Cal P w K mg base 1 "_refuse" spRefuse [] := by
  obtain ⟨fd, F⟩ := f_refuse T
  refine mkCal F (g_refuse T) (F.bindsN fun _ _ _ _ _ _ us hl => match us, hl with | [_, _], _ => rfl) .nil sc_refuse (fun vs H Q E h => ?_) (fun cdv A outer s H vs Q E hr h => ?_)
  · obtain ⟨r, rfl, _⟩ := h
    rfl
  obtain ⟨r, rfl, q⟩ := h
  refine ⟨_, (pss_one (ps_if (pt_val (pv 1)) (pss_one ps_no) pss_nil)), ?_⟩
  exact ⟨_, rfl, _, rfl, iteF q⟩
abbrev N_has_strange : List Str := ["source", "columns", "column"]
theorem sc_has_strange : FnScope N_has_strange ["source", "columns"] (defScope s_has_strange) := ⟨rfl, rfl, rfl, by decide +kernel, rfl, by decide +kernel, by decide +kernel⟩
theorem c_has_strange (T : Tx K mg) : C8.Cal P w K mg base 1 "_has_strange" (spStrange K (CSt K)) [] := by
  obtain ⟨fd, F⟩ := f_has_strange T
  refine mkCal F (g_has_strange T) (F.bindsN fun _ _ _ _ _ _ us hl => match us, hl with | [_, _], _ => rfl) .nil sc_has_strange (fun vs H Q E h => ?_) (fun cdv A outer s H vs Q E hr h => ?_)
  · obtain ⟨G, a, c, st, ins, xs, rfl, _⟩ := h
    rfl
  obtain ⟨G, a, c, st, ins, xs, rfl, hG, ha, hc, hl, q⟩ := h
  obtain ⟨dx, i, cc, m, d, fs, h1, h2, h3, h4, h5, h6⟩ := ha.ex
  have C0 := cls_Step_ T
  have sl : sizeLine = 16777216 := rfl
  rcases hc with hc | hc
  · refine ⟨_, (pss_one (ps_ret (pe_callB (cr_any rfl) (by rfl) (z_any T) boot_any (pa_cons (pe_lc (own := [("column", 2)]) rfl sc_has_strange.nd (pi_listK (K := K) rfl (pv 1)) (blkOk_by (N := N_has_strange) (sc := defScope s_has_strange) (by decide +kernel)) (fun _ _ _ _ _ => (pg_name (i := 2) sc_has_strange.nd rfl (Or.inl rfl))) (fun _ _ _ _ _ => pts_nil) (fun _ _ _ _ _ => (pe_cmpR (op_notIn_seqK (K := K) rfl) (pv 2) (pe_fldK (K := K) rfl (pv 0) (by rfl)) (by rfl)))) pa_nil)))), ?_⟩
    refine ⟨_, rfl, c, rfl, ⟨_, hc⟩, fun D hD => ?_⟩
    have gD := hG.free hD
    refine lc_list (K := K) (a := c) (xs := sV xs) (fun i H' => Step none G H G H' ∧ H' D = some (.lst (((xs.take i).map fun x => !decide (x ∈ st.cs)).map V.bl))) ⟨(Step.refl hG).loc hD gD, upd_same⟩ ?_ ?_ ?_
    · rintro i H' _ ⟨s', _⟩
      exact sqL_same hc s'.all
    · rintro i x H' hx ⟨s', hL⟩
      obtain ⟨k, mk, rfl, hi⟩ := sV_at' hx
      refine ⟨rfl, ?_⟩
      unfold tYes
      refine iteT ⟨_, rfl, _, rfl, a, CSt K, dx, _, _, rfl, s'.gh _ _ h1, C0, noat_Step_columns T, h2.c, cc, sV st.cs, rfl, .inl (SqL.of (s'.gh _ _ h4)), rfl, sV_flat _, _, hL, by rw [List.length_map, List.length_map, List.length_take]; omega, s'.loc hD gD, ?_⟩
      rw [upd_same, ← bl_take (f := fun x => !decide (x ∈ st.cs)) mk, ← inV_sV]
      rfl
    rintro H' ⟨s', hL⟩
    refine ⟨D, _, rfl, SqL.of hL, ?_⟩
    rw [sV_len, List.take_length, any_id]
    exact q H' s'
  · refine ⟨_, (pss_one (ps_ret (pe_callB (cr_any rfl) (by rfl) (z_any T) boot_any (pa_cons (pe_lc (own := [("column", 2)]) rfl sc_has_strange.nd (pi_tupK (K := K) rfl (pv 1)) (blkOk_by (N := N_has_strange) (sc := defScope s_has_strange) (by decide +kernel)) (fun _ _ _ _ _ => (pg_name (i := 2) sc_has_strange.nd rfl (Or.inl rfl))) (fun _ _ _ _ _ => pts_nil) (fun _ _ _ _ _ => (pe_cmpR (op_notIn_seqK (K := K) rfl) (pv 2) (pe_fldK (K := K) rfl (pv 0) (by rfl)) (by rfl)))) pa_nil)))), ?_⟩
    refine ⟨_, rfl, c, rfl, ⟨_, hc⟩, fun D hD => ?_⟩
    have gD := hG.free hD
    refine lc_tup (K := K) (a := c) (xs := sV xs) (fun i H' => Step none G H G H' ∧ H' D = some (.lst (((xs.take i).map fun x => !decide (x ∈ st.cs)).map V.bl))) ⟨(Step.refl hG).loc hD gD, upd_same⟩ ?_ ?_ ?_
    · rintro i H' _ ⟨s', _⟩
      exact sqT_same hc s'.all
    · rintro i x H' hx ⟨s', hL⟩
      obtain ⟨k, mk, rfl, hi⟩ := sV_at' hx
      refine ⟨rfl, ?_⟩
      unfold tYes
      refine iteT ⟨_, rfl, _, rfl, a, CSt K, dx, _, _, rfl, s'.gh _ _ h1, C0, noat_Step_columns T, h2.c, cc, sV st.cs, rfl, .inl (SqL.of (s'.gh _ _ h4)), rfl, sV_flat _, _, hL, by rw [List.length_map, List.length_map, List.length_take]; omega, s'.loc hD gD, ?_⟩
      rw [upd_same, ← bl_take (f := fun x => !decide (x ∈ st.cs)) mk, ← inV_sV]
      rfl
    rintro H' ⟨s', hL⟩
    refine ⟨D, _, rfl, SqL.of hL, ?_⟩
    rw [sV_len, List.take_length, any_id]
    exact q H' s'
abbrev N_has_measure : List Str := ["source", "columns", "column"]
theorem sc_has_measure : FnScope N_has_measure ["source", "columns"] (defScope s_has_measure) := ⟨rfl, rfl, rfl, by decide +kernel, rfl, by decide +kernel, by decide +kernel⟩
theorem c_has_measure (T : Tx K mg) : C8.Cal P w K mg base 1 "_has_measure" (spMeasure K (CSt K)) [] := by
  obtain ⟨fd, F⟩ := f_has_measure T
  refine mkCal F (g_has_measure T) (F.bindsN fun _ _ _ _ _ _ us hl => match us, hl with | [_, _], _ => rfl) .nil sc_has_measure (fun vs H Q E h => ?_) (fun cdv A outer s H vs Q E hr h => ?_)
  · obtain ⟨G, a, c, st, ins, xs, rfl, _⟩ := h
    rfl
  obtain ⟨G, a, c, st, ins, xs, rfl, hG, ha, hc, hl, q⟩ := h
  obtain ⟨dx, i, cc, m, d, fs, h1, h2, h3, h4, h5, h6⟩ := ha.ex
  have C0 := cls_Step_ T
  have sl : sizeLine = 16777216 := rfl
  rcases hc with hc | hc
  · refine ⟨_, (pss_one (ps_ret (pe_callB (cr_any rfl) (by rfl) (z_any T) boot_any (pa_cons (pe_lc (own := [("column", 2)]) rfl sc_has_measure.nd (pi_listK (K := K) rfl (pv 1)) (blkOk_by (N := N_has_measure) (sc := defScope s_has_measure) (by decide +kernel)) (fun _ _ _ _ _ => (pg_name (i := 2) sc_has_measure.nd rfl (Or.inl rfl))) (fun _ _ _ _ _ => pts_nil) (fun _ _ _ _ _ => (pe_cmpR (op_in_seqK (K := K) rfl) (pv 2) (pe_fldK (K := K) rfl (pv 0) (by rfl)) (by rfl)))) pa_nil)))), ?_⟩
    refine ⟨_, rfl, c, rfl, ⟨_, hc⟩, fun D hD => ?_⟩
    have gD := hG.free hD
    refine lc_list (K := K) (a := c) (xs := sV xs) (fun i H' => Step none G H G H' ∧ H' D = some (.lst (((xs.take i).map fun x => decide (x ∈ st.ms)).map V.bl))) ⟨(Step.refl hG).loc hD gD, upd_same⟩ ?_ ?_ ?_
    · rintro i H' _ ⟨s', _⟩
      exact sqL_same hc s'.all
    · rintro i x H' hx ⟨s', hL⟩
      obtain ⟨k, mk, rfl, hi⟩ := sV_at' hx
      refine ⟨rfl, ?_⟩
      unfold tYes
      refine iteT ⟨_, rfl, _, rfl, a, CSt K, dx, _, _, rfl, s'.gh _ _ h1, C0, noat_Step_measures T, h2.m, m, sV st.ms, rfl, .inl (SqL.of (s'.gh _ _ h5)), rfl, sV_flat _, _, hL, by rw [List.length_map, List.length_map, List.length_take]; omega, s'.loc hD gD, ?_⟩
      rw [upd_same, ← bl_take (f := fun x => decide (x ∈ st.ms)) mk, ← inV_sV]
      rfl
    rintro H' ⟨s', hL⟩
    refine ⟨D, _, rfl, SqL.of hL, ?_⟩
    rw [sV_len, List.take_length, any_id]
    exact q H' s'
  · refine ⟨_, (pss_one (ps_ret (pe_callB (cr_any rfl) (by rfl) (z_any T) boot_any (pa_cons (pe_lc (own := [("column", 2)]) rfl sc_has_measure.nd (pi_tupK (K := K) rfl (pv 1)) (blkOk_by (N := N_has_measure) (sc := defScope s_has_measure) (by decide +kernel)) (fun _ _ _ _ _ => (pg_name (i := 2) sc_has_measure.nd rfl (Or.inl rfl))) (fun _ _ _ _ _ => pts_nil) (fun _ _ _ _ _ => (pe_cmpR (op_in_seqK (K := K) rfl) (pv 2) (pe_fldK (K := K) rfl (pv 0) (by rfl)) (by rfl)))) pa_nil)))), ?_⟩
    refine ⟨_, rfl, c, rfl, ⟨_, hc⟩, fun D hD => ?_⟩
    have gD := hG.free hD
    refine lc_tup (K := K) (a := c) (xs := sV xs) (fun i H' => Step none G H G H' ∧ H' D = some (.lst (((xs.take i).map fun x => decide (x ∈ st.ms)).map V.bl))) ⟨(Step.refl hG).loc hD gD, upd_same⟩ ?_ ?_ ?_
    · rintro i H' _ ⟨s', _⟩
      exact sqT_same hc s'.all
    · rintro i x H' hx ⟨s', hL⟩
      obtain ⟨k, mk, rfl, hi⟩ := sV_at' hx
      refine ⟨rfl, ?_⟩
      unfold tYes
      refine iteT ⟨_, rfl, _, rfl, a, CSt K, dx, _, _, rfl, s'.gh _ _ h1, C0, noat_Step_measures T, h2.m, m, sV st.ms, rfl, .inl (SqL.of (s'.gh _ _ h5)), rfl, sV_flat _, _, hL, by rw [List.length_map, List.length_map, List.length_take]; omega, s'.loc hD gD, ?_⟩
      rw [upd_same, ← bl_take (f := fun x => decide (x ∈ st.ms)) mk, ← inV_sV]
      rfl
    rintro H' ⟨s', hL⟩
    refine ⟨D, _, rfl, SqL.of hL, ?_⟩
    rw [sV_len, List.take_length, any_id]
    exact q H' s'
end Pf
namespace Bs
open PySem PySem.Spec PyProof.Rows L2 SX
variable {P : Program} {w : World} {K : PySem.W.Frag} {mg : Str → Option Value} {base : Heap}
/-- 1 to so many unlike plain columns -/
def spPlain (K : PySem.W.Frag) (C : Addr) : Sp := fun vs H Q _ => ∃ (G : Hp) (a c : Addr) (st : Stp) (ins : List V) (xs : List (List Nat)) (m : Int), vs = [.ref a, .ref c, .int m] ∧ Same G H ∧ StAt K C G a st ins ∧ SqT K H c (sV xs) ∧ Pl st xs ∧ xs.Nodup ∧ 1 ≤ xs.length ∧ (xs.length : Int) ≤ m ∧ m ≤ 8 ∧
  ∀ H' : Hp, Step none G H G H' → Q .non H'
def spSorted (K : PySem.W.Frag) (C : Addr) : Sp := fun vs H Q _ => ∃ (G : Hp) (a c : Addr) (st : Stp) (ins : List V) (xs : List (List Nat)), vs = [.ref a, .ref c] ∧ Same G H ∧ StAt K C G a st ins ∧ SqT K H c (sV xs) ∧ Pl st xs ∧ xs.Nodup ∧ 1 ≤ xs.length ∧ xs.length ≤ 4 ∧
  ∀ H' : Hp, Step none G H G H' → Q .non H'
def spRuled (K : PySem.W.Frag) (C : Addr) : Sp := fun vs H Q _ => ∃ (G : Hp) (a c : Addr) (r : List Nat) (st : Stp) (ins : List V) (xs : List (List Nat)), vs = [.ref a, .str (S r), .ref c] ∧ Nm r ∧ Same G H ∧ StAt K C G a st ins ∧ SqT K H c (sV xs) ∧ Pl st xs ∧ xs.Nodup ∧ 1 ≤ xs.length ∧ xs.length ≤ 3 ∧
  ∀ H' : Hp, Step none G H G H' → Q .non H'
def spCWhere (K : PySem.W.Frag) (C : Addr) : Sp := fun vs H Q _ => ∃ (G : Hp) (a c : Addr) (r : List Nat) (st : Stp) (ins : List V) (xs : List (List Nat)), vs = [.ref a, .str (S r), .ref c] ∧ Nm r ∧ Same G H ∧ StAt K C G a st ins ∧ SqT K H c (sV xs) ∧ Pl st xs ∧ 1 ≤ xs.length ∧ xs.length ≤ 8 ∧
  ∀ H' : Hp, Step none G H G H' → Q .non H'
def spCEqual (K : PySem.W.Frag) (C : Addr) : Sp := fun vs H Q _ => ∃ (G : Hp) (a : Addr) (x y : List Nat) (st : Stp) (ins : List V), vs = [.ref a, .str (S x), .str (S y)] ∧ x ≠ y ∧ Same G H ∧ StAt K C G a st ins ∧ Pl st [x, y] ∧
  ∀ H' : Hp, Step none G H G H' → Q .non H'
def spCKeep (K : PySem.W.Frag) (C : Addr) : Sp := fun vs H Q _ => ∃ (G : Hp) (a c : Addr) (st : Stp) (ins : List V) (xs : List (List Nat)), vs = [.ref a, .ref c] ∧ Same G H ∧ StAt K C G a st ins ∧ SqT K H c (sV xs) ∧ (∀ x ∈ xs, x ∈ st.cs) ∧ xs.Nodup ∧ 1 ≤ xs.length ∧ xs.length ≤ 100 ∧
  ∀ H' : Hp, Step none G H G H' → Q .non H'
def spCDistinct (K : PySem.W.Frag) (C : Addr) : Sp := fun vs H Q _ => ∃ (G : Hp) (a : Addr) (st : Stp) (ins : List V), vs = [.ref a] ∧ Same G H ∧ StAt K C G a st ins ∧ st.ms = [] ∧ Q .non H
theorem bl2 {r : Str} {b : Bool} (h : b = false) : [V.str r, V.bl b] = [.str r, .bl false] := by rw [h]
end Bs
namespace Pf
open PySem PySem.Spec PyProof.Rows L2 Bs SX
variable {P : Program} {w : World} {K : PySem.W.Frag} {mg : Str → Option Value} {base : Heap}
abbrev N_check_where : List Str := ["source", "test", "columns", "measured"]
theorem sc_check_where : FnScope N_check_where ["source", "test", "columns"] (defScope s_check_where) := ⟨rfl, rfl, rfl, by decide +kernel, rfl, by decide +kernel, by decide +kernel⟩
theorem c_check_where (T : Tx K mg) : C8.Cal P w K mg base 3 "check_where" (spCWhere K (CSt K)) [] := by
  obtain ⟨fd, F⟩ := f_check_where T
  have c_refuse := c_refuse (P := P) (w := w) (base := base) T
  have c_is_name := c_is_name (P := P) (w := w) (base := base) T
  have c_has_strange := c_has_strange (P := P) (w := w) (base := base) T
  have c_has_measure := c_has_measure (P := P) (w := w) (base := base) T
  have c_has_twice := c_has_twice (P := P) (w := w) (base := base) T
  have pe_g_MOST_TESTED : ∀ {X : Cx} {pos : Pos}, X.mg = mg → Gl X "MOST_TESTED" → PE X (.Name "MOST_TESTED" pos) (tC (.int 8)) := fun h1 h2 => by
    obtain ⟨t, e⟩ := ci_MOST_TESTED T
    exact pe_glob h2 (by rw [h1]; exact e) ⟨t, rfl⟩
  refine mkCal F (g_check_where T) (F.bindsN fun _ _ _ _ _ _ us hl => match us, hl with | [_, _, _], _ => rfl) .nil sc_check_where (fun vs H Q E h => ?_) (fun cdv A outer s H vs Q E hr h => ?_)
  · obtain ⟨G, a, c, r, st, ins, xs, rfl, _⟩ := h
    rfl
  obtain ⟨G, a, c, r, st, ins, xs, rfl, nm, hG, ha, hc, hp, l1, l2, q⟩ := h
  have hl := sV_len xs
  refine ⟨_, (pss_cons (ps_set (i := 3) sc_check_where.nd rfl (Or.inl rfl) (C8.pe_c c_has_measure hr (by first | decide | omega) rfl (pa_cons (pv 0) (pa_cons (pv 2) pa_nil))))
    (pss_cons (ps_expr (C8.pe_c c_refuse hr (by first | decide | omega) rfl (pa_cons pe_str (pa_cons (pe_not (C8.pe_c c_is_name hr (by first | decide | omega) rfl (pa_cons (pv 1) pa_nil))) pa_nil))))
    (pss_cons (ps_expr (C8.pe_c c_refuse hr (by first | decide | omega) rfl (pa_cons pe_str (pa_cons (pe_not (pe_chain op_le op_le pe_int (pe_callB (call_len_seqK (K := K) rfl) (by rfl) (z_len T) boot_len (pa_cons (pv 2) pa_nil)) (pe_g_MOST_TESTED rfl rfl))) pa_nil))))
    (pss_cons (ps_expr (C8.pe_c c_refuse hr (by first | decide | omega) rfl (pa_cons pe_str (pa_cons (pe_or (C8.pe_c c_has_strange hr (by first | decide | omega) rfl (pa_cons (pv 0) (pa_cons (pv 2) pa_nil))) (pe_one (pe_and (pv 3) (pe_one (C8.pe_c c_has_twice hr (by first | decide | omega) rfl (pa_cons (pv 2) pa_nil)))))) pa_nil))))
    (pss_one (ps_expr (C8.pe_c c_refuse hr (by first | decide | omega) rfl (pa_cons pe_str (pa_cons (pe_and (pv 3) (pe_one (pe_cmpR op_lt (pe_callB (call_len_seqK (K := K) rfl) (by rfl) (z_len T) boot_len (pa_cons (pv 2) pa_nil)) (pe_callB (call_len_seqK (K := K) rfl) (by rfl) (z_len T) boot_len (pa_cons (pe_fldK (K := K) rfl (pv 0) (by rfl)) pa_nil)) (nomark _)))) pa_nil))))))))), ?_⟩
  refine ⟨_, rfl, _, rfl, G, a, c, st, ins, xs, rfl, hG, ha, .inr hc, by omega, fun H1 s1 => ?_⟩
  rw [hp.measure]
  refine ⟨_, rfl, G, r, rfl, nm, s1.gh, fun H2 s2 => ⟨_, rfl, ⟨_, bl2 rfl, ?_⟩⟩⟩
  have s12 := s1.trans s2
  have hc2 := sqT_same hc s12.all
  refine ⟨_, rfl, c, _, rfl, .inr hc2, _, _, rfl, rfl, _, rfl, ?_⟩
  refine ite2 (fun _ => ?_) (fun z => absurd (decide_eq_true (by omega)) z)
  refine ⟨_, _, rfl, rfl, _, rfl, ⟨_, bl2 (by rw [decide_eq_true (by omega)]; rfl), ?_⟩⟩
  refine ⟨_, rfl, _, rfl, G, a, c, st, ins, xs, rfl, s12.gh, ha, .inr hc2, by omega, fun H3 s3 => ?_⟩
  rw [hp.strange]
  refine ⟨_, rfl, iteF ⟨_, rfl, _, rfl, iteF (⟨_, bl2 rfl, ?_⟩)⟩⟩
  exact ⟨_, rfl, _, rfl, iteF (⟨_, bl2 rfl, (q H3 (s12.trans s3))⟩)⟩
abbrev N_check_equal : List Str := ["source", "left", "right"]
theorem sc_check_equal : FnScope N_check_equal ["source", "left", "right"] (defScope s_check_equal) := ⟨rfl, rfl, rfl, by decide +kernel, rfl, by decide +kernel, by decide +kernel⟩
theorem c_check_equal (T : Tx K mg) : C8.Cal P w K mg base 3 "check_equal" (spCEqual K (CSt K)) [] := by
  obtain ⟨fd, F⟩ := f_check_equal T
  have c_refuse := c_refuse (P := P) (w := w) (base := base) T
  have c_has_strange := c_has_strange (P := P) (w := w) (base := base) T
  have c_has_measure := c_has_measure (P := P) (w := w) (base := base) T
  refine mkCal F (g_check_equal T) (F.bindsN fun _ _ _ _ _ _ us hl => match us, hl with | [_, _, _], _ => rfl) .nil sc_check_equal (fun vs H Q E h => ?_) (fun cdv A outer s H vs Q E hr h => ?_)
  · obtain ⟨G, a, x, y, st, ins, rfl, _⟩ := h
    rfl
  obtain ⟨G, a, x, y, st, ins, rfl, ne, hG, ha, hp, q⟩ := h
  refine ⟨_, (pss_cons (ps_expr (C8.pe_c c_refuse hr (by first | decide | omega) rfl (pa_cons pe_str (pa_cons (pe_or (C8.pe_c c_has_strange hr (by first | decide | omega) rfl (pa_cons (pv 0) (pa_cons (pe_lst (pa_cons (pv 1) (pa_cons (pv 2) pa_nil))) pa_nil))) (pe_one (pe_cmpR op_eq (pv 1) (pv 2) (nomark _)))) pa_nil))))
    (pss_one (ps_expr (C8.pe_c c_refuse hr (by first | decide | omega) rfl (pa_cons pe_str (pa_cons (C8.pe_c c_has_measure hr (by first | decide | omega) rfl (pa_cons (pv 0) (pa_cons (pe_lst (pa_cons (pv 1) (pa_cons (pv 2) pa_nil))) pa_nil))) pa_nil)))))), ?_⟩
  refine ⟨_, rfl, _, rfl, _, rfl, by show 2 ≤ sizeLine; decide, fun l hl => ?_⟩
  have s0 : Step none G H G (upd H l (.lst (sV [x, y]))) := (Step.refl hG).loc hl (hG.free hl)
  refine ⟨G, a, l, st, ins, [x, y], rfl, s0.gh, ha,   .inl (SqL.of upd_same), by show 2 ≤ 1000; decide, fun H1 s1 => ?_⟩
  rw [hp.strange]
  refine ⟨_, rfl, iteF ⟨_, rfl, _, rfl, rfl, ⟨_, bl2 (decide_eq_false fun e => ne (S_inj (V.str.inj e))), ?_⟩⟩⟩
  refine ⟨_, rfl, _, rfl, _, rfl, by show 2 ≤ sizeLine; decide, fun l2 hl2 => ?_⟩
  have s01 := s0.trans s1
  have s2 : Step none G H G (upd H1 l2 (.lst (sV [x, y]))) := s01.loc (s01.free hl2) (s01.gh.free hl2)
  refine ⟨G, a, l2, st, ins, [x, y], rfl, s2.gh, ha, .inl (SqL.of upd_same), by show 2 ≤ 1000; decide, fun H3 s3 => ⟨_, bl2 hp.measure, (q H3 (s2.trans s3))⟩⟩
abbrev N_check_keep : List Str := ["source", "columns"]
theorem sc_check_keep : FnScope N_check_keep ["source", "columns"] (defScope s_check_keep) := ⟨rfl, rfl, rfl, by decide +kernel, rfl, by decide +kernel, by decide +kernel⟩
theorem c_check_keep (T : Tx K mg) : C8.Cal P w K mg base 3 "check_keep" (spCKeep K (CSt K)) [] := by
  obtain ⟨fd, F⟩ := f_check_keep T
  have c_refuse := c_refuse (P := P) (w := w) (base := base) T
  have c_has_strange := c_has_strange (P := P) (w := w) (base := base) T
  have c_has_twice := c_has_twice (P := P) (w := w) (base := base) T
  refine mkCal F (g_check_keep T) (F.bindsN fun _ _ _ _ _ _ us hl => match us, hl with | [_, _], _ => rfl) .nil sc_check_keep (fun vs H Q E h => ?_) (fun cdv A outer s H vs Q E hr h => ?_)
  · obtain ⟨G, a, c, st, ins, xs, rfl, _⟩ := h
    rfl
  obtain ⟨G, a, c, st, ins, xs, rfl, hG, ha, hc, hp, nd, l1, l2, q⟩ := h
  have hl := sV_len xs
  refine ⟨_, (pss_cons (ps_expr (C8.pe_c c_refuse hr (by first | decide | omega) rfl (pa_cons pe_str (pa_cons (pe_cmpR op_eq (pe_callB (call_len_seqK (K := K) rfl) (by rfl) (z_len T) boot_len (pa_cons (pv 1) pa_nil)) pe_int (nomark _)) pa_nil))))
    (pss_one (ps_expr (C8.pe_c c_refuse hr (by first | decide | omega) rfl (pa_cons pe_str (pa_cons (pe_or (C8.pe_c c_has_strange hr (by first | decide | omega) rfl (pa_cons (pv 0) (pa_cons (pv 1) pa_nil))) (pe_one (C8.pe_c c_has_twice hr (by first | decide | omega) rfl (pa_cons (pv 1) pa_nil)))) pa_nil)))))), ?_⟩
  refine ⟨_, rfl, c, _, rfl, .inr hc, rfl, ⟨_, bl2 (decide_eq_false fun e => by have := V.int.inj e; omega), ?_⟩⟩
  refine ⟨_, rfl, _, rfl, G, a, c, st, ins, xs, rfl, hG, ha, .inr hc, by omega, fun H1 s1 => ?_⟩
  rw [any_no fun x hx => by rw [decide_eq_true (hp x hx)]; rfl]
  exact ⟨_, rfl, iteF ⟨_, rfl, c, xs, rfl, .inr (sqT_same hc s1.all), nd, by omega, ⟨_, bl2 rfl, (q H1 s1)⟩⟩⟩
abbrev N_check_distinct : List Str := ["source"]
theorem sc_check_distinct : FnScope N_check_distinct ["source"] (defScope s_check_distinct) := ⟨rfl, rfl, rfl, by decide +kernel, rfl, by decide +kernel, by decide +kernel⟩
theorem c_check_distinct (T : Tx K mg) : C8.Cal P w K mg base 2 "check_distinct" (spCDistinct K (CSt K)) [] := by
  obtain ⟨fd, F⟩ := f_check_distinct T
  have c_refuse := c_refuse (P := P) (w := w) (base := base) T
  refine mkCal F (g_check_distinct T) (F.bindsN fun _ _ _ _ _ _ us hl => match us, hl with | [_], _ => rfl) .nil sc_check_distinct (fun vs H Q E h => ?_) (fun cdv A outer s H vs Q E hr h => ?_)
  · obtain ⟨G, a, st, ins, rfl, _⟩ := h
    rfl
  obtain ⟨G, a, st, ins, rfl, hG, ha, hm, q⟩ := h
  obtain ⟨dx, i, cc, m, d, fs, h1, h2, h3, h4, h5, h6⟩ := ha.ex
  refine ⟨_, (pss_one (ps_expr (C8.pe_c c_refuse hr (by first | decide | omega) rfl (pa_cons pe_str (pa_cons (pe_cmpR op_gt (pe_callB (call_len_seqK (K := K) rfl) (by rfl) (z_len T) boot_len (pa_cons (pe_fldK (K := K) rfl (pv 0) (by rfl)) pa_nil)) pe_int (nomark _)) pa_nil))))), ?_⟩
  refine ⟨_, rfl, a, CSt K, dx, _, _, rfl, hG _ _ h1, cls_Step_ T, noat_Step_measures T, h2.m, m, _, rfl, .inl (SqL.of (hG _ _ h5)), _, _, rfl, rfl, ⟨_, bl2 ?_, q⟩⟩
  rw [hm]
  rfl
end Pf
namespace Bs
open PySem PySem.Spec PyProof.Rows L2 SX
variable {P : Program} {w : World} {K : PySem.W.Frag} {mg : Str → Option Value} {base : Heap}
/-- the defaults of named, pairs and sums -/
abbrev dNa (K : PySem.W.Frag) : V := .ref (Hd.kwAt ("Step", some "__init__") "named" K)
abbrev dPa (K : PySem.W.Frag) : V := .ref (Hd.kwAt ("Step", some "__init__") "pairs" K)
abbrev dSu (K : PySem.W.Frag) : V := .ref (Hd.kwAt ("Step", some "__init__") "sums" K)
theorem mkS {C : Addr} {G H : Hp} {ia ca ma da na pa su x dx : Addr} {st : Stp} {ins nl pl ul : List V} {t : V} {nm nw : Str} {Q : VK} {E : XK} (hG : Same G H) (gi : G ia = some (.tup ins)) (hc : Sq K H ca (sV st.cs)) (hm : SqL K H ma (sV st.ms)) (hd : H da = some (.dK (dV st.ds)))
    (dn : (st.ds.map (·.1)).Nodup) (dl : st.ds.length ≤ 1000) (hn : Sq K H na nl) (hpa : Sq K H pa pl) (hsu : Sq K H su ul)
    (k : ∀ (G' H' : Hp), Step none G H G' H' → StAt K C G' x st ins → H x = none → Q (.ref x) H') (hx : H x = none) (hdx : H dx = none) (ne : dx ≠ x) :
    spSInit K C [.ref x, .str (S st.kd), .ref ia, .ref ca, .ref ma, .ref da, t, .str nm, .str nw, .ref na, .ref pa, .ref su] (upd (upd H dx (.own x)) x (.ins C dx [])) (fun v H3 => v = .non ∧ Q (.ref x) H3) E := by
  have s0 : Step none G H G (upd H dx (.own x)) := (Step.refl hG).loc hdx (hG.free hdx)
  have gx := hG.free hx
  have hx1 : upd H dx (.own x) x = none := by rw [upd_ne ne.symm]; exact hx
  have n1 : Same H (upd H dx (.own x)) := Same.new (Same.refl H) hdx
  have n2 : Same (upd H dx (.own x)) (upd (upd H dx (.own x)) x (.ins C dx [])) := Same.new (Same.refl _) hx1
  have n3 := n1.trans n2
  refine ⟨G, x, dx, ia, ca, ma, da, na, pa, su, st, ins, nl, pl, ul, t, nm, nw, rfl, (s0.gh).trans n2, gx, upd_same, gi, hc.same n3, sqL_same hm n3, n3 _ _ hd, dn, dl, hn.same n3, hpa.same n3, hsu.same n3, fun G' H' i c m d n p' u st1 gp' hp' e1 e2 e3 e4 => ⟨rfl, ?_⟩⟩
  have st1 := s0.trans (Step.absorb hx1 st1)
  have st2 := st1.freeze (q := x) hx hp' gp'
  have sm : Same G' (upd G' x (.ins C dx (stf st.kd i c m d t (.str nm) (.str nw) n p' u))) := Same.new (Same.refl G') gp'
  exact k _ H' st2 ⟨dx, i, c, m, d, _, upd_same, stf_fl, sm _ _ e1, sm _ _ e2, sm _ _ e3, sm _ _ e4⟩ hx
/-- the default tuples -/
structure Dfl (K : PySem.W.Frag) (H : Hp) : Prop where
  n : Sq K H (Hd.kwAt ("Step", some "__init__") "named" K) []
  p : Sq K H (Hd.kwAt ("Step", some "__init__") "pairs" K) []
  s : Sq K H (Hd.kwAt ("Step", some "__init__") "sums" K) []
end Bs
namespace Pf
open PySem PySem.Spec PyProof.Rows L2 Bs SX
variable {P : Program} {w : World} {K : PySem.W.Frag} {mg : Str → Option Value} {base : Heap}
theorem dfl_ (T : Tx K mg) (H : Hp) : Dfl K H := ⟨.inr (Hd.tupAtB_ok (ex_15 T) H), .inr (Hd.tupAtB_ok (ex_16 T) H), .inr (Hd.tupAtB_ok (ex_17 T) H)⟩
theorem kws_S : d_Step_init.2.kws K = [(("table" : Str), V.non), (("name" : Str), V.str ""), (("new" : Str), V.str ""), (("named" : Str), dNa K), (("pairs" : Str), dPa K), (("sums" : Str), dSu K)] := rfl
theorem kp_Step_table (T : Tx K mg) : MakP P w K mg base 1 "Step" (CSt K) 5 ["table"] (fun vs zs => (fun (vs mv zs : List V) => vs ++ ((zs.drop 0).take 1 ++ ((mv.drop 0).take 1 ++ ((mv.drop 1).take 1 ++ ((mv.drop 2).take 1 ++ ((mv.drop 3).take 1 ++ ((mv.drop 4).take 1))))))) vs [V.str "", V.str "", dNa K, dPa K, dSu K] zs) (spSInit K (CSt K)) := by
  obtain ⟨fd, RO, F⟩ := o_sinit (P := P) (w := w) (base := base) T
  obtain ⟨mv, hb⟩ := FunD.kbinds0 F 6 ["table"] [(("name" : Str), V.str ""), (("new" : Str), V.str ""), (("named" : Str), dNa K), (("pairs" : Str), dPa K), (("sums" : Str), dSu K)] (fun {α} (vs mv zs : List α) => vs ++ ((zs.drop 0).take 1 ++ ((mv.drop 0).take 1 ++ ((mv.drop 1).take 1 ++ ((mv.drop 2).take 1 ++ ((mv.drop 3).take 1 ++ ((mv.drop 4).take 1))))))) (by rw [kws_S]; exact fun z => by cases z) (fun q h => by rw [kws_S]; simp only [List.mem_cons, List.mem_nil_iff, or_false] at h ⊢; rcases h with rfl | rfl | rfl | rfl | rfl <;> simp) (fun r1 r2 r3 => r1.append (((r3.drop 0).take 1).append (((r2.drop 0).take 1).append (((r2.drop 1).take 1).append (((r2.drop 2).take 1).append (((r2.drop 3).take 1).append ((r2.drop 4).take 1)))))))
    (ps := ["self", "kind", "inputs", "columns", "measures", "depths", "table", "name", "new", "named", "pairs", "sums"]) (fun D doc pm an cdv ct us mv ws h1 h2 h3 => match us, mv, ws, h1, h2, h3 with | [_, _, _, _, _, _], [_, _, _, _, _], [_], _, _, _ => ⟨_, _, _, _, _, _, rfl, rfl, ⟨_, _, _, _, _, _, rfl, rfl, ⟨_, _, _, _, _, _, rfl, rfl, ⟨_, _, _, _, _, _, rfl, rfl, ⟨_, _, _, _, _, _, rfl, rfl, rfl⟩⟩⟩⟩⟩)
  exact ⟨_, fd, _, _, mkr_Step_ T, RO, g_Step T, hb⟩
theorem kp_Step_name_named (T : Tx K mg) : MakP P w K mg base 1 "Step" (CSt K) 5 ["name", "named"] (fun vs zs => (fun (vs mv zs : List V) => vs ++ ((mv.drop 0).take 1 ++ ((zs.drop 0).take 1 ++ ((mv.drop 1).take 1 ++ ((zs.drop 1).take 1 ++ ((mv.drop 2).take 1 ++ ((mv.drop 3).take 1))))))) vs [V.non, V.str "", dPa K, dSu K] zs) (spSInit K (CSt K)) := by
  obtain ⟨fd, RO, F⟩ := o_sinit (P := P) (w := w) (base := base) T
  obtain ⟨mv, hb⟩ := FunD.kbinds0 F 6 ["name", "named"] [(("table" : Str), V.non), (("new" : Str), V.str ""), (("pairs" : Str), dPa K), (("sums" : Str), dSu K)] (fun {α} (vs mv zs : List α) => vs ++ ((mv.drop 0).take 1 ++ ((zs.drop 0).take 1 ++ ((mv.drop 1).take 1 ++ ((zs.drop 1).take 1 ++ ((mv.drop 2).take 1 ++ ((mv.drop 3).take 1))))))) (by rw [kws_S]; exact fun z => by cases z) (fun q h => by rw [kws_S]; simp only [List.mem_cons, List.mem_nil_iff, or_false] at h ⊢; rcases h with rfl | rfl | rfl | rfl <;> simp) (fun r1 r2 r3 => r1.append (((r2.drop 0).take 1).append (((r3.drop 0).take 1).append (((r2.drop 1).take 1).append (((r3.drop 1).take 1).append (((r2.drop 2).take 1).append ((r2.drop 3).take 1)))))))
    (ps := ["self", "kind", "inputs", "columns", "measures", "depths", "table", "name", "new", "named", "pairs", "sums"]) (fun D doc pm an cdv ct us mv ws h1 h2 h3 => match us, mv, ws, h1, h2, h3 with | [_, _, _, _, _, _], [_, _, _, _], [_, _], _, _, _ => ⟨_, _, _, _, _, _, rfl, rfl, ⟨_, _, _, _, _, _, rfl, rfl, ⟨_, _, _, _, _, _, rfl, rfl, ⟨_, _, _, _, _, _, rfl, rfl, rfl⟩⟩⟩⟩)
  exact ⟨_, fd, _, _, mkr_Step_ T, RO, g_Step T, hb⟩
theorem kp_Step_name_new_named (T : Tx K mg) : MakP P w K mg base 1 "Step" (CSt K) 5 ["name", "new", "named"] (fun vs zs => (fun (vs mv zs : List V) => vs ++ ((mv.drop 0).take 1 ++ ((zs.drop 0).take 1 ++ ((zs.drop 1).take 1 ++ ((zs.drop 2).take 1 ++ ((mv.drop 1).take 1 ++ ((mv.drop 2).take 1))))))) vs [V.non, dPa K, dSu K] zs) (spSInit K (CSt K)) := by
  obtain ⟨fd, RO, F⟩ := o_sinit (P := P) (w := w) (base := base) T
  obtain ⟨mv, hb⟩ := FunD.kbinds0 F 6 ["name", "new", "named"] [(("table" : Str), V.non), (("pairs" : Str), dPa K), (("sums" : Str), dSu K)] (fun {α} (vs mv zs : List α) => vs ++ ((mv.drop 0).take 1 ++ ((zs.drop 0).take 1 ++ ((zs.drop 1).take 1 ++ ((zs.drop 2).take 1 ++ ((mv.drop 1).take 1 ++ ((mv.drop 2).take 1))))))) (by rw [kws_S]; exact fun z => by cases z) (fun q h => by rw [kws_S]; simp only [List.mem_cons, List.mem_nil_iff, or_false] at h ⊢; rcases h with rfl | rfl | rfl <;> simp) (fun r1 r2 r3 => r1.append (((r2.drop 0).take 1).append (((r3.drop 0).take 1).append (((r3.drop 1).take 1).append (((r3.drop 2).take 1).append (((r2.drop 1).take 1).append ((r2.drop 2).take 1)))))))
    (ps := ["self", "kind", "inputs", "columns", "measures", "depths", "table", "name", "new", "named", "pairs", "sums"]) (fun D doc pm an cdv ct us mv ws h1 h2 h3 => match us, mv, ws, h1, h2, h3 with | [_, _, _, _, _, _], [_, _, _], [_, _, _], _, _, _ => ⟨_, _, _, _, _, _, rfl, rfl, ⟨_, _, _, _, _, _, rfl, rfl, ⟨_, _, _, _, _, _, rfl, rfl, rfl⟩⟩⟩)
  exact ⟨_, fd, _, _, mkr_Step_ T, RO, g_Step T, hb⟩
theorem kp_Step_named (T : Tx K mg) : MakP P w K mg base 1 "Step" (CSt K) 5 ["named"] (fun vs zs => (fun (vs mv zs : List V) => vs ++ ((mv.drop 0).take 1 ++ ((mv.drop 1).take 1 ++ ((mv.drop 2).take 1 ++ ((zs.drop 0).take 1 ++ ((mv.drop 3).take 1 ++ ((mv.drop 4).take 1))))))) vs [V.non, V.str "", V.str "", dPa K, dSu K] zs) (spSInit K (CSt K)) := by
  obtain ⟨fd, RO, F⟩ := o_sinit (P := P) (w := w) (base := base) T
  obtain ⟨mv, hb⟩ := FunD.kbinds0 F 6 ["named"] [(("table" : Str), V.non), (("name" : Str), V.str ""), (("new" : Str), V.str ""), (("pairs" : Str), dPa K), (("sums" : Str), dSu K)] (fun {α} (vs mv zs : List α) => vs ++ ((mv.drop 0).take 1 ++ ((mv.drop 1).take 1 ++ ((mv.drop 2).take 1 ++ ((zs.drop 0).take 1 ++ ((mv.drop 3).take 1 ++ ((mv.drop 4).take 1))))))) (by rw [kws_S]; exact fun z => by cases z) (fun q h => by rw [kws_S]; simp only [List.mem_cons, List.mem_nil_iff, or_false] at h ⊢; rcases h with rfl | rfl | rfl | rfl | rfl <;> simp) (fun r1 r2 r3 => r1.append (((r2.drop 0).take 1).append (((r2.drop 1).take 1).append (((r2.drop 2).take 1).append (((r3.drop 0).take 1).append (((r2.drop 3).take 1).append ((r2.drop 4).take 1)))))))
    (ps := ["self", "kind", "inputs", "columns", "measures", "depths", "table", "name", "new", "named", "pairs", "sums"]) (fun D doc pm an cdv ct us mv ws h1 h2 h3 => match us, mv, ws, h1, h2, h3 with | [_, _, _, _, _, _], [_, _, _, _, _], [_], _, _, _ => ⟨_, _, _, _, _, _, rfl, rfl, ⟨_, _, _, _, _, _, rfl, rfl, ⟨_, _, _, _, _, _, rfl, rfl, ⟨_, _, _, _, _, _, rfl, rfl, ⟨_, _, _, _, _, _, rfl, rfl, rfl⟩⟩⟩⟩⟩)
  exact ⟨_, fd, _, _, mkr_Step_ T, RO, g_Step T, hb⟩
theorem kp_Step_named_sums (T : Tx K mg) : MakP P w K mg base 1 "Step" (CSt K) 5 ["named", "sums"] (fun vs zs => (fun (vs mv zs : List V) => vs ++ ((mv.drop 0).take 1 ++ ((mv.drop 1).take 1 ++ ((mv.drop 2).take 1 ++ ((zs.drop 0).take 1 ++ ((mv.drop 3).take 1 ++ ((zs.drop 1).take 1))))))) vs [V.non, V.str "", V.str "", dPa K] zs) (spSInit K (CSt K)) := by
  obtain ⟨fd, RO, F⟩ := o_sinit (P := P) (w := w) (base := base) T
  obtain ⟨mv, hb⟩ := FunD.kbinds0 F 6 ["named", "sums"] [(("table" : Str), V.non), (("name" : Str), V.str ""), (("new" : Str), V.str ""), (("pairs" : Str), dPa K)] (fun {α} (vs mv zs : List α) => vs ++ ((mv.drop 0).take 1 ++ ((mv.drop 1).take 1 ++ ((mv.drop 2).take 1 ++ ((zs.drop 0).take 1 ++ ((mv.drop 3).take 1 ++ ((zs.drop 1).take 1))))))) (by rw [kws_S]; exact fun z => by cases z) (fun q h => by rw [kws_S]; simp only [List.mem_cons, List.mem_nil_iff, or_false] at h ⊢; rcases h with rfl | rfl | rfl | rfl <;> simp) (fun r1 r2 r3 => r1.append (((r2.drop 0).take 1).append (((r2.drop 1).take 1).append (((r2.drop 2).take 1).append (((r3.drop 0).take 1).append (((r2.drop 3).take 1).append ((r3.drop 1).take 1)))))))
    (ps := ["self", "kind", "inputs", "columns", "measures", "depths", "table", "name", "new", "named", "pairs", "sums"]) (fun D doc pm an cdv ct us mv ws h1 h2 h3 => match us, mv, ws, h1, h2, h3 with | [_, _, _, _, _, _], [_, _, _, _], [_, _], _, _, _ => ⟨_, _, _, _, _, _, rfl, rfl, ⟨_, _, _, _, _, _, rfl, rfl, ⟨_, _, _, _, _, _, rfl, rfl, ⟨_, _, _, _, _, _, rfl, rfl, rfl⟩⟩⟩⟩)
  exact ⟨_, fd, _, _, mkr_Step_ T, RO, g_Step T, hb⟩
end Pf
namespace Bs
open PySem PySem.Spec PyProof.Rows L2 SX
variable {P : Program} {w : World} {K : PySem.W.Frag} {mg : Str → Option Value} {base : Heap}
abbrev kScan : List Nat := [115, 99, 97, 110]
theorem kScan_ : ("scan" : Str) = S kScan := by decide +kernel
abbrev kWhere : List Nat := [119, 104, 101, 114, 101]
theorem kWhere_ : ("where" : Str) = S kWhere := by decide +kernel
abbrev kCompute : List Nat := [99, 111, 109, 112, 117, 116, 101]
theorem kCompute_ : ("compute" : Str) = S kCompute := by decide +kernel
abbrev kEqual : List Nat := [101, 113, 117, 97, 108]
theorem kEqual_ : ("equal" : Str) = S kEqual := by decide +kernel
abbrev kKeep : List Nat := [107, 101, 101, 112]
theorem kKeep_ : ("keep" : Str) = S kKeep := by decide +kernel
abbrev kDistinct : List Nat := [100, 105, 115, 116, 105, 110, 99, 116]
theorem kDistinct_ : ("distinct" : Str) = S kDistinct := by decide +kernel
abbrev kGroup : List Nat := [103, 114, 111, 117, 112]
theorem kGroup_ : ("group" : Str) = S kGroup := by decide +kernel
abbrev kSort : List Nat := [115, 111, 114, 116]
theorem kSort_ : ("sort" : Str) = S kSort := by decide +kernel
abbrev kOwn : List Nat := [111, 119, 110]
theorem kOwn_ : ("own" : Str) = S kOwn := by decide +kernel
abbrev kSplit : List Nat := [115, 112, 108, 105, 116]
theorem kSplit_ : ("split" : Str) = S kSplit := by decide +kernel
abbrev kBroadcast : List Nat := [98, 114, 111, 97, 100, 99, 97, 115, 116]
theorem kBroadcast_ : ("broadcast" : Str) = S kBroadcast := by decide +kernel
abbrev kGather : List Nat := [103, 97, 116, 104, 101, 114]
theorem kGather_ : ("gather" : Str) = S kGather := by decide +kernel
abbrev kMerge : List Nat := [109, 101, 114, 103, 101]
theorem kMerge_ : ("merge" : Str) = S kMerge := by decide +kernel
/-- o.m(e, .., *v): the n first ones, then the rest as a new tuple -/
def starS (n : Nat) (sp : Sp) : Sp := fun vs H Q E => ∃ ws rest : List V, vs = ws ++ rest ∧ ws.length = n ∧ rest.length ≤ sizeLine ∧ ∀ p, H p = none → sp (ws ++ [V.ref p]) (upd H p (.tup rest)) Q E
structure DpOk (st : Stp) : Prop where
  nd : (st.ds.map (·.1)).Nodup
  le : st.ds.length ≤ 900
/-- a new step over this one with the same columns -/
abbrev MkSt (K : PySem.W.Frag) (C : Addr) (G H : Hp) (st : Stp) (ins : List V) (Q : VK) : Prop := ∀ (G' H' : Hp) (x : Addr), Step none G H G' H' → StAt K C G' x st ins → H x = none → Q (.ref x) H'
def spAlike (K : PySem.W.Frag) (C : Addr) : Sp := fun vs H Q _ => ∃ (G : Hp) (a n : Addr) (k nm : Str) (kd : List Nat) (st : Stp) (ins nl : List V), vs = [.ref a, .str k, .str nm, .ref n] ∧ k = S kd ∧ Same G H ∧ StAt K C G a st ins ∧ DpOk st ∧ Sq K H n nl ∧ MkSt K C G H { st with kd := kd } [.ref a] Q
def spMWhere (K : PySem.W.Frag) (C : Addr) : Sp := fun vs H Q _ => ∃ (G : Hp) (a c : Addr) (r : List Nat) (st : Stp) (ins : List V) (xs : List (List Nat)), vs = [.ref a, .str (S r), .ref c] ∧ Nm r ∧ Same G H ∧ StAt K C G a st ins ∧ DpOk st ∧ SqT K H c (sV xs) ∧ Pl st xs ∧ 1 ≤ xs.length ∧ xs.length ≤ 8 ∧ MkSt K C G H { st with kd := kWhere } [.ref a] Q
def spMSorted (K : PySem.W.Frag) (C : Addr) (kd : List Nat) : Sp := fun vs H Q _ => ∃ (G : Hp) (a c : Addr) (st : Stp) (ins : List V) (xs : List (List Nat)), vs = [.ref a, .ref c] ∧ Same G H ∧ StAt K C G a st ins ∧ DpOk st ∧ SqT K H c (sV xs) ∧ Pl st xs ∧ xs.Nodup ∧ 1 ≤ xs.length ∧ xs.length ≤ 4 ∧ MkSt K C G H { st with kd := kd } [.ref a] Q
def spMRuled (K : PySem.W.Frag) (C : Addr) (kd : List Nat) : Sp := fun vs H Q _ => ∃ (G : Hp) (a c : Addr) (r : List Nat) (st : Stp) (ins : List V) (xs : List (List Nat)), vs = [.ref a, .str (S r), .ref c] ∧ Nm r ∧ Same G H ∧ StAt K C G a st ins ∧ DpOk st ∧ SqT K H c (sV xs) ∧ Pl st xs ∧ xs.Nodup ∧ 1 ≤ xs.length ∧ xs.length ≤ 3 ∧ MkSt K C G H { st with kd := kd } [.ref a] Q
def spMEqual (K : PySem.W.Frag) (C : Addr) : Sp := fun vs H Q _ => ∃ (G : Hp) (a : Addr) (x y : List Nat) (st : Stp) (ins : List V), vs = [.ref a, .str (S x), .str (S y)] ∧ x ≠ y ∧ Same G H ∧ StAt K C G a st ins ∧ DpOk st ∧ Pl st [x, y] ∧ MkSt K C G H { st with kd := kEqual } [.ref a] Q
def spMPlain (K : PySem.W.Frag) (C : Addr) (kd : List Nat) : Sp := fun vs H Q _ => ∃ (G : Hp) (a : Addr) (st : Stp) (ins : List V), vs = [.ref a] ∧ Same G H ∧ StAt K C G a st ins ∧ DpOk st ∧ MkSt K C G H { st with kd := kd } [.ref a] Q
def spMDistinct (K : PySem.W.Frag) (C : Addr) : Sp := fun vs H Q _ => ∃ (G : Hp) (a : Addr) (st : Stp) (ins : List V), vs = [.ref a] ∧ Same G H ∧ StAt K C G a st ins ∧ DpOk st ∧ st.ms = [] ∧ MkSt K C G H { st with kd := kDistinct } [.ref a] Q
theorem StAt.obj {C : Addr} {G : Hp} {a : Addr} {st : Stp} {ins : List V} (h : StAt K C G a st ins) : ∃ dx fs, G a = some (.ins C dx fs) ∧ ∀ x, x ∉ stN → fs.lookup x = none := by
  obtain ⟨dx, i, cc, m, d, fs, h1, h2, _⟩ := h.ex
  exact ⟨dx, fs, h1, h2.no⟩
end Bs
namespace Pf
open PySem PySem.Spec PyProof.Rows L2 Bs SX
variable {P : Program} {w : World} {K : PySem.W.Frag} {mg : Str → Option Value} {base : Heap}
abbrev N_Step_alike : List Str := ["self", "kind", "name", "named"]
theorem sc_Step_alike : FnScope N_Step_alike ["self", "kind", "name", "named"] (defScope s_Step_alike) := ⟨rfl, rfl, rfl, by decide +kernel, rfl, by decide +kernel, by decide +kernel⟩
theorem t_alike (T : Tx K mg) : C8.Met P w K mg base 3 (CSt K) "_alike" (spAlike K (CSt K)) [] := by
  obtain ⟨fd, F⟩ := f_Step_alike T
  have kp_Step_name_named := kp_Step_name_named (P := P) (w := w) (base := base) T
  have RB : Binds K fd ["self", "kind", "name", "named"] [] := F.bindsN fun _ _ _ _ _ _ us hl => match us, hl with | [_, _, _, _], _ => rfl
  have RO : FnOk P w K mg base C8.CX0 3 (He.ma K (CSt K) "_alike") fd ["self", "kind", "name", "named"] (spAlike K (CSt K)) := by
    refine ok0' F sc_Step_alike (fun vs H Q E h => ?_) (fun cdv A outer s H vs Q E hr h => ?_)
    · obtain ⟨G, a, n, k, nm, kd, st, ins, nl, rfl, _⟩ := h
      rfl
    obtain ⟨G, a, n, k, nm, kd, st, ins, nl, rfl, rfl, hG, ha, ok, hn, q⟩ := h
    have C0 := cls_Step_ T
    obtain ⟨dx, i, cc, m, d, fs, h1, h2, h3, h4, h5, h6⟩ := ha.ex
    have sl : sizeLine = 16777216 := rfl
    refine ⟨_, (pss_one (ps_ret (pe_mkp kp_Step_name_named hr (by first | decide | omega) rfl (pa_cons (pv 1) (pa_cons (pe_tup (pa_cons (pv 0) pa_nil)) (pa_cons (pe_fldK (K := K) rfl (pv 0) (by rfl)) (pa_cons (pe_fldK (K := K) rfl (pv 0) (by rfl)) (pa_cons (pe_fldK (K := K) rfl (pv 0) (by rfl)) pa_nil))))) (pk_cons (pv 2) (pk_cons (pv 3) pk_nil))))), ?_⟩
    refine ⟨_, rfl, _, rfl, by show 1 ≤ sizeLine; decide, fun l hl => ?_⟩
    have s0 : Step none G H (upd G l (.tup [.ref a])) (upd H l (.tup [.ref a])) := (Step.refl hG).new_ hl
    have gl : upd G l (.tup [.ref a]) l = some (.tup [.ref a]) := upd_same
    generalize upd G l (.tup [.ref a]) = G1 at *
    generalize upd H l (.tup [.ref a]) = H1 at *
    have h1' := s0.gh _ _ (s0.gg _ _ h1)
    refine ⟨_, rfl, a, CSt K, dx, _, _, rfl, h1', C0, noat_Step_columns T, h2.c, _, rfl, a, CSt K, dx, _, _, rfl, h1', C0, noat_Step_measures T, h2.m, _, rfl, a, CSt K, dx, _, _, rfl, h1', C0, noat_Step_depths T, h2.d, _, rfl, _, rfl, rfl, rfl, fun x dx' hx hdx ne => ?_⟩
    have D0 := dfl_ T H1
    exact mkS (st := { st with kd := kd }) s0.gh gl (.inl (SqL.of (s0.gh _ _ (s0.gg _ _ h4)))) (SqL.of (s0.gh _ _ (s0.gg _ _ h5))) (s0.gh _ _ (s0.gg _ _ h6)) ok.nd (Nat.le_trans ok.le (by decide)) (hn.same s0.all) D0.p D0.s (fun G' H' s1 at1 hx0 => q G' H' x (s0.trans s1) at1 (s0.free hx0)) hx hdx ne
  exact ⟨_, fd, _, _, cls_Step_ T, meth_Step_alike T, RO, RB, .nil⟩
abbrev N_Step_where : List Str := ["self", "test", "columns"]
theorem sc_Step_where : FnScope N_Step_where ["self", "test", "columns"] (defScope s_Step_where) := ⟨rfl, rfl, rfl, by decide +kernel, rfl, by decide +kernel, by decide +kernel⟩
theorem tr_where (T : Tx K mg) : MetR P w K mg base 4 (CSt K) "where" (starS 2 (spMWhere K (CSt K))) := by
  obtain ⟨fd, F⟩ := f_Step_where T
  have t_alike := t_alike (P := P) (w := w) (base := base) T
  have c_check_where := c_check_where (P := P) (w := w) (base := base) T
  obtain ⟨oc, od, dV, kV, doc, pm, an, cdv, ct, osl, rfl, lk, hcd, hD, _⟩ := F.ex
  obtain ⟨_, rfl⟩ | ⟨hne, _⟩ := hD
  rotate_left
  · exact absurd rfl hne
  refine ⟨_, cls_Step_ T, meth_Step_where T, StX.fn_star (ps := ["self", "test"]) (pv := "columns") (N := N_Step_where) (sp := spMWhere K (CSt K)) lk hcd sc_Step_where StX.cxUp_none (fun us rest hl => match us, rest, hl with | [_, _], [], _ => rfl | [_, _], _ :: _, _ => rfl) (fun A outer s H vs Q E hr h => ?_)⟩
  obtain ⟨G, a, c, r, st, ins, xs, rfl, nm, hG, ha, ok, hc, hp, l1, l2, q⟩ := h
  obtain ⟨dx, fs, h1, hno⟩ := ha.obj
  suffices hh : ∃ t, PSs (cxOf C8.CX0 P w K mg base N_Step_where d_Step_where.2.qual d_Step_where.2.scope (d_Step_where.1 K) cdv A outer s H E).nox d_Step_where.2.body t ∧ t { nx := fun _ H' => Q .non H', rt := Q } (start N_Step_where [.ref a, .str (S r), .ref c]) H from
    let ⟨t, x1, x2⟩ := hh
    ⟨t, x1.nox, x2⟩
  refine ⟨_, (pss_cons (ps_expr (C8.pe_c c_check_where hr (by first | decide | omega) rfl (pa_cons (pv 0) (pa_cons (pv 1) (pa_cons (pv 2) pa_nil)))))
    (pss_one (ps_ret (C8.pe_mt t_alike hr (by first | decide | omega) (pv 0) (pa_cons pe_str (pa_cons (pv 1) (pa_cons (pv 2) pa_nil))))))), ?_⟩
  refine ⟨_, rfl, _, rfl, _, rfl, G, a, c, r, st, ins, xs, rfl, nm, hG, ha, hc, hp, l1, l2, fun H1 s1 => ?_⟩
  have hc1 := sqT_same hc s1.all
  refine ⟨_, rfl, a, dx, fs, rfl, s1.gh _ _ h1, hno _ (by decide +kernel), _, rfl, _, rfl, G, a, c, _, S r, kWhere, st, ins, _, rfl, kWhere_, s1.gh, ha, ok, .inr hc1, fun G' H' x s2 at' hx => q G' H' x (s1.trans s2) at' (s1.free hx)⟩
abbrev N_Step_broadcast : List Str := ["self"]
theorem sc_Step_broadcast : FnScope N_Step_broadcast ["self"] (defScope s_Step_broadcast) := ⟨rfl, rfl, rfl, by decide +kernel, rfl, by decide +kernel, by decide +kernel⟩
theorem t_broadcast (T : Tx K mg) : C8.Met P w K mg base 4 (CSt K) "broadcast" (spMPlain K (CSt K) kBroadcast) [] := by
  obtain ⟨fd, F⟩ := f_Step_broadcast T
  have t_alike := t_alike (P := P) (w := w) (base := base) T
  have RB : Binds K fd ["self"] [] := F.bindsN fun _ _ _ _ _ _ us hl => match us, hl with | [_], _ => rfl
  have RO : FnOk P w K mg base C8.CX0 4 (He.ma K (CSt K) "broadcast") fd ["self"] (spMPlain K (CSt K) kBroadcast) := by
    refine ok0' F sc_Step_broadcast (fun vs H Q E h => ?_) (fun cdv A outer s H vs Q E hr h => ?_)
    · obtain ⟨G, a, st, ins, rfl, hG, ha, ok, q⟩ := h
      rfl
    obtain ⟨G, a, st, ins, rfl, hG, ha, ok, q⟩ := h
    obtain ⟨dx, fs, h1, hno⟩ := ha.obj
    refine ⟨_, (pss_one (ps_ret (C8.pe_mt t_alike hr (by first | decide | omega) (pv 0) (pa_cons pe_str (pa_cons pe_str (pa_cons (pe_tup pa_nil) pa_nil)))))), ?_⟩
    refine ⟨_, rfl, a, dx, fs, rfl, hG _ _ h1, hno _ (by decide +kernel), by show 0 ≤ sizeLine; decide, fun l hl => ?_⟩
    have s2 : Step none G H G (upd H l (.tup [])) := (Step.refl hG).loc hl (hG.free hl)
    exact ⟨G, a, l, _, _, kBroadcast, st, ins, _, rfl, kBroadcast_, s2.gh, ha, ok, .inr (SqT.of upd_same), fun G' H' x s3 at' hx => q G' H' x (s2.trans s3) at' (s2.free hx)⟩
  exact ⟨_, fd, _, _, cls_Step_ T, meth_Step_broadcast T, RO, RB, .nil⟩
abbrev N_Step_gather : List Str := ["self"]
theorem sc_Step_gather : FnScope N_Step_gather ["self"] (defScope s_Step_gather) := ⟨rfl, rfl, rfl, by decide +kernel, rfl, by decide +kernel, by decide +kernel⟩
theorem t_gather (T : Tx K mg) : C8.Met P w K mg base 4 (CSt K) "gather" (spMPlain K (CSt K) kGather) [] := by
  obtain ⟨fd, F⟩ := f_Step_gather T
  have t_alike := t_alike (P := P) (w := w) (base := base) T
  have RB : Binds K fd ["self"] [] := F.bindsN fun _ _ _ _ _ _ us hl => match us, hl with | [_], _ => rfl
  have RO : FnOk P w K mg base C8.CX0 4 (He.ma K (CSt K) "gather") fd ["self"] (spMPlain K (CSt K) kGather) := by
    refine ok0' F sc_Step_gather (fun vs H Q E h => ?_) (fun cdv A outer s H vs Q E hr h => ?_)
    · obtain ⟨G, a, st, ins, rfl, hG, ha, ok, q⟩ := h
      rfl
    obtain ⟨G, a, st, ins, rfl, hG, ha, ok, q⟩ := h
    obtain ⟨dx, fs, h1, hno⟩ := ha.obj
    refine ⟨_, (pss_one (ps_ret (C8.pe_mt t_alike hr (by first | decide | omega) (pv 0) (pa_cons pe_str (pa_cons pe_str (pa_cons (pe_tup pa_nil) pa_nil)))))), ?_⟩
    refine ⟨_, rfl, a, dx, fs, rfl, hG _ _ h1, hno _ (by decide +kernel), by show 0 ≤ sizeLine; decide, fun l hl => ?_⟩
    have s2 : Step none G H G (upd H l (.tup [])) := (Step.refl hG).loc hl (hG.free hl)
    exact ⟨G, a, l, _, _, kGather, st, ins, _, rfl, kGather_, s2.gh, ha, ok, .inr (SqT.of upd_same), fun G' H' x s3 at' hx => q G' H' x (s2.trans s3) at' (s2.free hx)⟩
  exact ⟨_, fd, _, _, cls_Step_ T, meth_Step_gather T, RO, RB, .nil⟩
abbrev N_Step_distinct : List Str := ["self"]
theorem sc_Step_distinct : FnScope N_Step_distinct ["self"] (defScope s_Step_distinct) := ⟨rfl, rfl, rfl, by decide +kernel, rfl, by decide +kernel, by decide +kernel⟩
theorem t_distinct (T : Tx K mg) : C8.Met P w K mg base 4 (CSt K) "distinct" (spMDistinct K (CSt K)) [] := by
  obtain ⟨fd, F⟩ := f_Step_distinct T
  have t_alike := t_alike (P := P) (w := w) (base := base) T
  have c_check_distinct := c_check_distinct (P := P) (w := w) (base := base) T
  have RB : Binds K fd ["self"] [] := F.bindsN fun _ _ _ _ _ _ us hl => match us, hl with | [_], _ => rfl
  have RO : FnOk P w K mg base C8.CX0 4 (He.ma K (CSt K) "distinct") fd ["self"] (spMDistinct K (CSt K)) := by
    refine ok0' F sc_Step_distinct (fun vs H Q E h => ?_) (fun cdv A outer s H vs Q E hr h => ?_)
    · obtain ⟨G, a, st, ins, rfl, hG, ha, ok, hm, q⟩ := h
      rfl
    obtain ⟨G, a, st, ins, rfl, hG, ha, ok, hm, q⟩ := h
    obtain ⟨dx, fs, h1, hno⟩ := ha.obj
    refine ⟨_, (pss_cons (ps_expr (C8.pe_c c_check_distinct hr (by first | decide | omega) rfl (pa_cons (pv 0) pa_nil)))
    (pss_one (ps_ret (C8.pe_mt t_alike hr (by first | decide | omega) (pv 0) (pa_cons pe_str (pa_cons pe_str (pa_cons (pe_tup pa_nil) pa_nil))))))), ?_⟩
    refine ⟨_, rfl, G, a, st, ins, rfl, hG, ha, hm, ?_⟩
    refine ⟨_, rfl, a, dx, fs, rfl, hG _ _ h1, hno _ (by decide +kernel), by show 0 ≤ sizeLine; decide, fun l hl => ?_⟩
    have s2 : Step none G H G (upd H l (.tup [])) := (Step.refl hG).loc hl (hG.free hl)
    exact ⟨G, a, l, _, _, kDistinct, st, ins, _, rfl, kDistinct_, s2.gh, ha, ok, .inr (SqT.of upd_same), fun G' H' x s3 at' hx => q G' H' x (s2.trans s3) at' (s2.free hx)⟩
  exact ⟨_, fd, _, _, cls_Step_ T, meth_Step_distinct T, RO, RB, .nil⟩
abbrev N_Step_equal : List Str := ["self", "left", "right"]
theorem sc_Step_equal : FnScope N_Step_equal ["self", "left", "right"] (defScope s_Step_equal) := ⟨rfl, rfl, rfl, by decide +kernel, rfl, by decide +kernel, by decide +kernel⟩
theorem t_equal (T : Tx K mg) : C8.Met P w K mg base 4 (CSt K) "equal" (spMEqual K (CSt K)) [] := by
  obtain ⟨fd, F⟩ := f_Step_equal T
  have t_alike := t_alike (P := P) (w := w) (base := base) T
  have c_check_equal := c_check_equal (P := P) (w := w) (base := base) T
  have RB : Binds K fd ["self", "left", "right"] [] := F.bindsN fun _ _ _ _ _ _ us hl => match us, hl with | [_, _, _], _ => rfl
  have RO : FnOk P w K mg base C8.CX0 4 (He.ma K (CSt K) "equal") fd ["self", "left", "right"] (spMEqual K (CSt K)) := by
    refine ok0' F sc_Step_equal (fun vs H Q E h => ?_) (fun cdv A outer s H vs Q E hr h => ?_)
    · obtain ⟨G, a, x0, y0, st, ins, rfl, hne, hG, ha, ok, hp, q⟩ := h
      rfl
    obtain ⟨G, a, x0, y0, st, ins, rfl, hne, hG, ha, ok, hp, q⟩ := h
    obtain ⟨dx, fs, h1, hno⟩ := ha.obj
    refine ⟨_, (pss_cons (ps_expr (C8.pe_c c_check_equal hr (by first | decide | omega) rfl (pa_cons (pv 0) (pa_cons (pv 1) (pa_cons (pv 2) pa_nil)))))
    (pss_one (ps_ret (C8.pe_mt t_alike hr (by first | decide | omega) (pv 0) (pa_cons pe_str (pa_cons pe_str (pa_cons (pe_tup (pa_cons (pv 1) (pa_cons (pv 2) pa_nil))) pa_nil))))))), ?_⟩
    refine ⟨_, rfl, _, rfl, _, rfl, G, a, x0, y0, st, ins, rfl, hne, hG, ha, hp, fun H1 s1 => ?_⟩
    refine ⟨_, rfl, a, dx, fs, rfl, s1.gh _ _ h1, hno _ (by decide +kernel), _, rfl, _, rfl, by show 2 ≤ sizeLine; decide, fun l hl => ?_⟩
    have s2 : Step none G H G (upd H1 l (.tup (sV [x0, y0]))) := s1.loc (s1.free hl) (s1.gh.free hl)
    exact ⟨G, a, l, _, _, kEqual, st, ins, _, rfl, kEqual_, s2.gh, ha, ok, .inr (SqT.of upd_same), fun G' H' x s3 at' hx => q G' H' x (s2.trans s3) at' (s2.free hx)⟩
  exact ⟨_, fd, _, _, cls_Step_ T, meth_Step_equal T, RO, RB, .nil⟩
end Pf
namespace Bs
open PySem PySem.Spec PyProof.Rows L2 SX
variable {P : Program} {w : World} {K : PySem.W.Frag} {mg : Str → Option Value} {base : Heap}
theorem valV_no : ∀ {ds : List (List Nat × Nat)} {c : List Nat}, c ∉ ds.map (·.1) → valV (dV ds) (Sum.inr (S c)) = none
  | [], _, _ => rfl
  | p :: r, c, h => by
    rw [List.map_cons, List.mem_cons, not_or] at h
    show valV ((Sum.inr (S p.1), V.int (p.2 : Nat)) :: dV r) _ = none
    rw [valV_neg fun z => h.1 (S_inj (Sum.inr.inj z)).symm]
    exact valV_no h.2
theorem dV_put {ds : List (List Nat × Nat)} {c : List Nat} {n : Nat} (h : c ∉ ds.map (·.1)) : putK (dV ds) (Sum.inr (S c)) (.int (n : Nat)) = dV (ds ++ [(c, n)]) := by
  rw [putK_new _ (valV_no h)]
  simp
/-- how deep a column is -/
def dep (st : Stp) (x : List Nat) : Nat := (st.ds.lookup x).getD 0
theorem OkS.dep {st : Stp} (h : OkS st) {x : List Nat} (h1 : x ∈ st.cs) (h2 : x ∉ st.ms) : st.ds.lookup x = some (dep st x) ∧ dep st x ≤ 3 := by
  obtain ⟨n, e, l⟩ := h.dp x h1 h2
  unfold Bs.dep
  rw [e]
  exact ⟨rfl, l⟩
theorem OkS.dpo {st : Stp} (h : OkS st) : DpOk st := ⟨h.dn, Nat.le_trans h.dl (by decide)⟩
/-- columns with their depths -/
abbrev dsOf (st : Stp) (zs : List (List Nat)) : List (List Nat × Nat) := zs.map fun x => (x, dep st x)
theorem dsOf_keys (st : Stp) (zs : List (List Nat)) : (dsOf st zs).map (·.1) = zs := by
  unfold dsOf
  rw [List.map_map]
  exact List.map_id _
theorem dsOf_lk {st : Stp} {zs : List (List Nat)} {x : List Nat} (h : x ∈ zs) : (dsOf st zs).lookup x = some (dep st x) := by
  induction zs with
  | nil => cases h
  | cons z r ih =>
    show List.lookup x ((z, dep st z) :: dsOf st r) = _
    rw [List.lookup_cons]
    by_cases e : x = z
    · subst e
      rw [beq_self_eq_true]
    · rw [beq_false_of_ne e]
      exact ih ((List.mem_cons.mp h).resolve_left e)
theorem dsOf_app (st : Stp) (zs : List (List Nat)) (x : List Nat) : dsOf st zs ++ [(x, dep st x)] = dsOf st (zs ++ [x]) := by
  unfold dsOf
  rw [List.map_append]
  rfl
theorem nodup_take {xs : List (List Nat)} {i : Nat} {x : List Nat} (nd : xs.Nodup) (h : xs[i]? = some x) : x ∉ xs.take i := by
  have hn : (xs.take (i + 1)).Nodup := nd.sublist (List.take_sublist _ _)
  rw [List.take_succ, h, List.nodup_append] at hn
  exact fun z => hn.2.2 x z x (by simp) rfl
theorem filter_take {xs : List (List Nat)} {i : Nat} {x : List Nat} {f : List Nat → Bool} (h : xs[i]? = some x) : (xs.take (i + 1)).filter f = (xs.take i).filter f ++ (if f x = true then [x] else []) := by
  rw [List.take_succ, h, List.filter_append]
  show _ ++ List.filter f [x] = _
  rw [List.filter_cons, List.filter_nil]
def spMKeep (K : PySem.W.Frag) (C : Addr) : Sp := fun vs H Q _ => ∃ (G : Hp) (a c : Addr) (st : Stp) (ins : List V) (xs : List (List Nat)), vs = [.ref a, .ref c] ∧ Same G H ∧ StAt K C G a st ins ∧ OkS st ∧ SqT K H c (sV xs) ∧ (∀ x ∈ xs, x ∈ st.cs) ∧ xs.Nodup ∧ 1 ≤ xs.length ∧ xs.length ≤ 60 ∧
  MkSt K C G H ⟨kKeep, xs, xs.filter fun x => decide (x ∈ st.ms), dsOf st (xs.filter fun x => !decide (x ∈ st.ms))⟩ [.ref a] Q
end Bs
namespace Pf
open PySem PySem.Spec PyProof.Rows L2 Bs SX
variable {P : Program} {w : World} {K : PySem.W.Frag} {mg : Str → Option Value} {base : Heap}
abbrev N_Step_keep : List Str := ["self", "columns", "measures", "depths", "column"]
theorem sc_Step_keep : FnScope N_Step_keep ["self", "columns"] (defScope s_Step_keep) := ⟨rfl, rfl, rfl, by decide +kernel, rfl, by decide +kernel, by decide +kernel⟩
theorem tr_keep (T : Tx K mg) : MetR P w K mg base 4 (CSt K) "keep" (starS 1 (spMKeep K (CSt K))) := by
  obtain ⟨fd, F⟩ := f_Step_keep T
  have kp_Step_named := kp_Step_named (P := P) (w := w) (base := base) T
  have c_check_keep := c_check_keep (P := P) (w := w) (base := base) T
  obtain ⟨oc, od, dV', kV', doc, pm, an, cdv, ct, osl, rfl, lk, hcd, hD, _⟩ := F.ex
  obtain ⟨_, rfl⟩ | ⟨hne, _⟩ := hD
  rotate_left
  · exact absurd rfl hne
  refine ⟨_, cls_Step_ T, meth_Step_keep T, StX.fn_star (ps := ["self"]) (pv := "columns") (N := N_Step_keep) (sp := spMKeep K (CSt K)) lk hcd sc_Step_keep StX.cxUp_none (fun us rest hl => match us, rest, hl with | [_], [], _ => rfl | [_], _ :: _, _ => rfl) (fun A outer s H vs Q E hr h => ?_)⟩
  obtain ⟨G, a, c, st, ins, xs, rfl, hG, ha, ok, hc, hp, nd, l1, l2, q⟩ := h
  obtain ⟨dx, i, cc, m, d, fs, h1, h2, h3, h4, h5, h6⟩ := ha.ex
  have C0 := cls_Step_ T
  have hu := hu_of hr
  have sl : sizeLine = 16777216 := rfl
  have hl := sV_len xs
  suffices hh : ∃ t, PSs (cxOf C8.CX0 P w K mg base N_Step_keep d_Step_keep.2.qual d_Step_keep.2.scope (d_Step_keep.1 K) cdv A outer s H E).nox d_Step_keep.2.body t ∧ t { nx := fun _ H' => Q .non H', rt := Q } (start N_Step_keep [.ref a, .ref c]) H from
    let ⟨t, x1, x2⟩ := hh
    ⟨t, x1.nox, x2⟩
  refine ⟨_, (pss_cons (ps_expr (C8.pe_c c_check_keep hr (by first | decide | omega) rfl (pa_cons (pv 0) (pa_cons (pv 1) pa_nil))))
    (pss_cons (ps_set (i := 2) sc_Step_keep.nd rfl (Or.inr rfl) (pe_lc (own := [("column", 4)]) rfl sc_Step_keep.nd (pi_tupK (K := K) rfl (pv 1)) (blkOk_by (N := N_Step_keep) (sc := defScope s_Step_keep) (by decide +kernel)) (fun _ _ _ _ _ => (pg_name (i := 4) sc_Step_keep.nd rfl (Or.inl rfl))) (fun _ _ _ _ _ => pts_one (pt_cmpR (op_in_seqK (K := K) rfl) (pv 4) (pe_fldK (K := K) rfl (pv 0) (by rfl)) (by rfl))) (fun _ _ _ _ _ => (pv 4))))
    (pss_cons (Dm.ps_setDc (i := 3) (own := [("column", 4)]) rfl sc_Step_keep.nd rfl rfl (Dm.sw_dict rfl rfl rfl (by decide +kernel)) (pi_tupK (K := K) rfl (pv 1)) (blkOk_by (N := N_Step_keep) (sc := defScope s_Step_keep) (by decide +kernel)) (fun _ _ _ _ _ => (pg_name (i := 4) sc_Step_keep.nd rfl (Or.inl rfl))) (fun _ _ _ _ _ => pts_one (pt_cmpR (op_notIn_seqK (K := K) rfl) (pv 4) (pv 2) (by rfl))) (fun _ _ _ _ _ => (pv 4)) (fun _ _ _ _ _ => (pe_dget hu (pe_fldK (K := K) rfl (pv 0) (by rfl)) (pv 4) (fun _ _ => rfl))))
    (pss_one (ps_ret (pe_mkp kp_Step_named hr (by first | decide | omega) rfl (pa_cons pe_str (pa_cons (pe_tup (pa_cons (pv 0) pa_nil)) (pa_cons (pv 1) (pa_cons (pv 2) (pa_cons (pv 3) pa_nil))))) (pk_cons (pv 1) pk_nil))))))), ?_⟩
  refine ⟨_, rfl, _, rfl, G, a, c, st, ins, xs, rfl, hG, ha, hc, hp, nd, l1, by omega, fun H1 s1 => ?_⟩
  have hc1 := sqT_same hc s1.all
  refine ⟨_, rfl, c, rfl, ⟨_, hc1⟩, fun D hD => ?_⟩
  have gD := s1.gh.free hD
  have hD0 := s1.free hD
  refine lc_tup (K := K) (a := c) (xs := sV xs) (fun i H' => Step none G H G H' ∧ H' D = some (.lst (sV ((xs.take i).filter fun x => decide (x ∈ st.ms))))) ⟨s1.loc hD0 gD, upd_same⟩ ?_ ?_ ?_
  · rintro i H' _ ⟨s', _⟩
    exact sqT_same hc s'.all
  · rintro i x H' hx ⟨s', hL⟩
    obtain ⟨k, mk, rfl, hi⟩ := sV_at' hx
    refine ⟨rfl, ?_⟩
    refine ⟨_, rfl, _, rfl, a, CSt K, dx, _, _, rfl, s'.gh _ _ h1, C0, noat_Step_measures T, h2.m, m, sV st.ms, rfl, .inl (SqL.of (s'.gh _ _ h5)), rfl, sV_flat _, _, rfl, ?_⟩
    have e1 : inV (.str (S k)) (sV st.ms) = decide (k ∈ st.ms) := inV_sV _ _
    have e2 := filter_take (f := fun x => decide (x ∈ st.ms)) mk
    refine ite2 (fun hb => ?_) (fun hb => ?_)
    · have hb : decide (k ∈ st.ms) = true := e1.symm.trans hb
      refine ⟨_, rfl, _, hL, by rw [sV_len]; have := List.length_filter_le (fun x => decide (x ∈ st.ms)) (xs.take i); rw [List.length_take] at this; omega, s'.loc hD0 gD, ?_⟩
      rw [upd_same, e2, if_pos hb, ← sV_app]
      rfl
    · have hb : ¬ decide (k ∈ st.ms) = true := fun z => hb (e1.trans z)
      refine ⟨s', ?_⟩
      rw [e2, if_neg hb, List.append_nil]
      exact hL
  rintro H2 ⟨s2, hL⟩
  rw [hl, List.take_length] at hL
  generalize hms : (xs.filter fun x => decide (x ∈ st.ms)) = ms at hL
  -- the depths
  have hc2 := sqT_same hc s2.all
  refine ⟨_, rfl, c, rfl, ⟨_, hc2⟩, fun D2 hD2 => ?_⟩
  have nDD : D ≠ D2 := ne_of_none hL hD2
  have gE := s2.gh.free hD2
  have hE0 := s2.free hD2
  refine dc_tup (K := K) (a := c) (xs := sV xs) (fun i H' => Step none G H G H' ∧ H' D = some (.lst (sV ms)) ∧ H' D2 = some (.dK (dV (dsOf st ((xs.take i).filter fun x => !decide (x ∈ ms)))))) ⟨s2.loc hE0 gE, by rw [upd_ne nDD]; exact hL, upd_same⟩ ?_ ?_ ?_
  · rintro i H' _ ⟨s', _, _⟩
    exact sqT_same hc s'.all
  · rintro i x H' hx ⟨s', hL', hD'⟩
    obtain ⟨k, mk, rfl, hi⟩ := sV_at' hx
    refine ⟨rfl, ?_⟩
    refine ⟨_, rfl, _, rfl, D, sV ms, rfl, .inl (SqL.of hL'), rfl, sV_flat _, _, rfl, ?_⟩
    have e1 : (!inV (.str (S k)) (sV ms)) = !decide (k ∈ ms) := by rw [inV_sV]
    have e2 := filter_take (f := fun x => !decide (x ∈ ms)) mk
    refine ite2 (fun hb => ?_) (fun hb => ?_)
    · have hb : (!decide (k ∈ ms)) = true := e1.symm.trans hb
      have hk : k ∉ st.ms := fun z => by
        have : k ∈ ms := by rw [← hms]; exact List.mem_filter.mpr ⟨List.mem_of_getElem? mk, decide_eq_true z⟩
        rw [decide_eq_true this] at hb
        cases hb
      have hv : some (V.int (dep st k : Nat)) = valV (dV st.ds) (Sum.inr (S k)) := (dV_get (ok.dep (hp k (List.mem_of_getElem? mk)) hk).1).symm
      refine ⟨_, rfl, _, rfl, a, CSt K, dx, _, _, rfl, s'.gh _ _ h1, C0, noat_Step_depths T, h2.d, _, rfl, d, _, rfl, .inl ⟨dV st.ds, Sum.inr (S k), .inl (s'.gh _ _ h6), rfl, hv⟩, _, Sum.inr (S k), rfl, hD', ?_, s'.loc hE0 gE, ?_, ?_⟩
      · rw [dV_len, List.length_map]
        have := List.length_filter_le (fun x => !decide (x ∈ ms)) (xs.take i)
        rw [List.length_take] at this
        omega
      · rw [upd_ne nDD]
        exact hL'
      · have hno : k ∉ (dsOf st ((xs.take i).filter fun x => !decide (x ∈ ms))).map (·.1) := by
          rw [dsOf_keys]
          exact fun z => nodup_take nd mk (List.mem_filter.mp z).1
        rw [upd_same, e2, if_pos hb, dV_put hno, dsOf_app]
    · have hb : ¬ (!decide (k ∈ ms)) = true := fun z => hb (e1.trans z)
      refine ⟨s', hL', ?_⟩
      rw [e2, if_neg hb, List.append_nil]
      exact hD'
  rintro H3 ⟨s3, hL3, hD3⟩
  rw [hl, List.take_length] at hD3
  have e5 : (xs.filter fun x => !decide (x ∈ ms)) = xs.filter fun x => !decide (x ∈ st.ms) := by
    refine List.filter_congr fun x hx => ?_
    have : (x ∈ ms) = (x ∈ st.ms) := by
      rw [← hms]
      exact propext ⟨fun z => of_decide_eq_true (List.mem_filter.mp z).2, fun z => List.mem_filter.mpr ⟨hx, decide_eq_true z⟩⟩
    rw [decide_eq_decide.mpr (iff_of_eq this)]
  rw [e5] at hD3
  subst hms
  refine ⟨_, rfl, by show 1 ≤ sizeLine; decide, fun l hl' => ?_⟩
  have s4 : Step none G H (upd G l (.tup [.ref a])) (upd H3 l (.tup [.ref a])) := s3.new_ hl'
  have gl : upd G l (.tup [.ref a]) l = some (.tup [.ref a]) := upd_same
  have kp4 : Same H3 (upd H3 l (.tup [.ref a])) := Same.new (Same.refl H3) hl'
  generalize upd G l (.tup [.ref a]) = G4 at *
  generalize upd H3 l (.tup [.ref a]) = H4 at *
  refine ⟨_, rfl, _, rfl, _, rfl, _, rfl, rfl, rfl, fun x dx' hx hdx ne => ?_⟩
  have D0 := dfl_ T H4
  have lz : (dsOf st (xs.filter fun x => !decide (x ∈ st.ms))).length ≤ 1000 := by
    rw [List.length_map]
    have := List.length_filter_le (fun x => !decide (x ∈ st.ms)) xs
    omega
  have nz : ((dsOf st (xs.filter fun x => !decide (x ∈ st.ms))).map (·.1)).Nodup := by
    rw [dsOf_keys]
    exact nd.sublist List.filter_sublist
  exact mkS (st := ⟨kKeep, xs, _, _⟩) s4.gh gl (.inr (sqT_same hc s4.all)) (SqL.of (kp4 _ _ hL3)) (kp4 _ _ hD3) nz lz (.inr (sqT_same hc s4.all)) D0.p D0.s (fun G' H' s1 at1 hx0 => q G' H' x (s4.trans s1) at1 (s4.free hx0)) hx hdx ne
end Pf
namespace Bs
open PySem PySem.Spec PyProof.Rows L2 SX
variable {P : Program} {w : World} {K : PySem.W.Frag} {mg : Str → Option Value} {base : Heap}
abbrev depI (st : Stp) (xs : List (List Nat)) : List Int := xs.map fun x => ((dep st x : Nat) : Int)
/-- m is the depth of the deepest of these -/
def Mx (st : Stp) (xs : List (List Nat)) (m : Nat) : Prop := (∃ x ∈ xs, dep st x = m) ∧ ∀ x ∈ xs, dep st x ≤ m
theorem Mx.uniq {st : Stp} {xs : List (List Nat)} {m n : Nat} (h : Mx st xs m) (k : Mx st xs n) : m = n := by
  obtain ⟨⟨x, hx, rfl⟩, h2⟩ := h
  obtain ⟨⟨y, hy, rfl⟩, k2⟩ := k
  have := h2 y hy
  have := k2 x hx
  omega
theorem mx_of {st : Stp} {xs : List (List Nat)} {m : Int} (h1 : m ∈ depI st xs) (h2 : ∀ y, y ∈ depI st xs → y ≤ m) : ∃ n : Nat, m = (n : Int) ∧ Mx st xs n := by
  obtain ⟨x, hx, e⟩ := List.mem_map.mp h1
  refine ⟨dep st x, e.symm, ⟨x, hx, rfl⟩, fun y hy => ?_⟩
  have := h2 _ (List.mem_map.mpr ⟨y, hy, rfl⟩)
  omega
theorem in_take {xs : List (List Nat)} {i : Nat} {k : List Nat} {f : List Nat → Int} (h : xs[i]? = some k) : ((xs.take i).map f).map V.int ++ [V.int (f k)] = ((xs.take (i + 1)).map f).map V.int := by
  rw [List.take_succ, h, List.map_append, List.map_append]
  rfl
def spCCompute (K : PySem.W.Frag) (C : Addr) : Sp := fun vs H Q _ => ∃ (G : Hp) (a c : Addr) (n f : List Nat) (st : Stp) (ins : List V) (xs : List (List Nat)), vs = [.ref a, .str (S n), .str (S f), .ref c] ∧ Nm n ∧ Nm f ∧ n ∉ st.cs ∧ Same G H ∧ StAt K C G a st ins ∧ OkS st ∧ SqT K H c (sV xs) ∧ Pl st xs ∧ 1 ≤ xs.length ∧ xs.length ≤ 3 ∧ (∀ x ∈ xs, dep st x ≤ 2) ∧
  ∀ (H' : Hp) (m : Nat), Step none G H G H' → Mx st xs m → Q (.int ((1 + m : Nat) : Int)) H'
def spMCompute (K : PySem.W.Frag) (C : Addr) : Sp := fun vs H Q _ => ∃ (G : Hp) (a c : Addr) (n f : List Nat) (st : Stp) (ins : List V) (xs : List (List Nat)), vs = [.ref a, .str (S n), .str (S f), .ref c] ∧ Nm n ∧ Nm f ∧ n ∉ st.cs ∧ Same G H ∧ StAt K C G a st ins ∧ OkS st ∧ SqT K H c (sV xs) ∧ Pl st xs ∧ 1 ≤ xs.length ∧ xs.length ≤ 3 ∧ (∀ x ∈ xs, dep st x ≤ 2) ∧
  ∀ m : Nat, Mx st xs m → MkSt K C G H ⟨kCompute, st.cs ++ [n], st.ms, st.ds ++ [(n, 1 + m)]⟩ [.ref a] Q
theorem merge_dV (ds : List (List Nat × Nat)) (nd : (ds.map (·.1)).Nodup) : mergeK [] (dV ds) = dV ds := by
  have h : ∀ (as bs : List (List Nat × Nat)), ((as ++ bs).map (·.1)).Nodup → mergeK (dV as) (dV bs) = dV (as ++ bs) := by
    intro as bs
    induction bs generalizing as with
    | nil => intro _; show dV as = _; rw [List.append_nil]
    | cons p r ih =>
      intro hn
      obtain ⟨c, n⟩ := p
      have hc : c ∉ as.map (·.1) := by
        rw [List.map_append, List.nodup_append] at hn
        exact fun z => hn.2.2 c z c (by simp) rfl
      show mergeK (putK (dV as) (Sum.inr (S c)) (.int (n : Nat))) (dV r) = _
      rw [dV_put hc, ih (as ++ [(c, n)]) (by rw [List.append_assoc]; exact hn), List.append_assoc]
      rfl
  exact h [] ds nd
end Bs
namespace Pf
open PySem PySem.Spec PyProof.Rows L2 Bs SX
variable {P : Program} {w : World} {K : PySem.W.Frag} {mg : Str → Option Value} {base : Heap}
abbrev N_check_compute : List Str := ["source", "name", "function", "columns", "deep", "column"]
theorem sc_check_compute : FnScope N_check_compute ["source", "name", "function", "columns"] (defScope s_check_compute) := ⟨rfl, rfl, rfl, by decide +kernel, rfl, by decide +kernel, by decide +kernel⟩
theorem c_check_compute (T : Tx K mg) : C8.Cal P w K mg base 3 "check_compute" (spCCompute K (CSt K)) [] := by
  obtain ⟨fd, F⟩ := f_check_compute T
  have c_refuse := c_refuse (P := P) (w := w) (base := base) T
  have c_is_name := c_is_name (P := P) (w := w) (base := base) T
  have c_has_strange := c_has_strange (P := P) (w := w) (base := base) T
  have c_has_measure := c_has_measure (P := P) (w := w) (base := base) T
  have pe_g_MOST_ARGUMENTS : ∀ {X : Cx} {pos : Pos}, X.mg = mg → Gl X "MOST_ARGUMENTS" → PE X (.Name "MOST_ARGUMENTS" pos) (tC (.int 3)) := fun h1 h2 => by
    obtain ⟨t, e⟩ := ci_MOST_ARGUMENTS T
    exact pe_glob h2 (by rw [h1]; exact e) ⟨t, rfl⟩
  have pe_g_MOST_DEEP : ∀ {X : Cx} {pos : Pos}, X.mg = mg → Gl X "MOST_DEEP" → PE X (.Name "MOST_DEEP" pos) (tC (.int 3)) := fun h1 h2 => by
    obtain ⟨t, e⟩ := ci_MOST_DEEP T
    exact pe_glob h2 (by rw [h1]; exact e) ⟨t, rfl⟩
  refine mkCal F (g_check_compute T) (F.bindsN fun _ _ _ _ _ _ us hl => match us, hl with | [_, _, _, _], _ => rfl) .nil sc_check_compute (fun vs H Q E h => ?_) (fun cdv A outer s H vs Q E hr h => ?_)
  · obtain ⟨G, a, c, n, f, st, ins, xs, rfl, _⟩ := h
    rfl
  obtain ⟨G, a, c, n, f, st, ins, xs, rfl, nmn, nmf, nin, hG, ha, ok, hc, hp, l1, l2, hd, q⟩ := h
  obtain ⟨dx, i, cc, m, d, fs, h1, h2, h3, h4, h5, h6⟩ := ha.ex
  have C0 := cls_Step_ T
  have hu := hu_of hr
  have sl : sizeLine = 16777216 := rfl
  have hl := sV_len xs
  refine ⟨_, (pss_cons (ps_expr (C8.pe_c c_refuse hr (by first | decide | omega) rfl (pa_cons pe_str (pa_cons (pe_or (pe_not (C8.pe_c c_is_name hr (by first | decide | omega) rfl (pa_cons (pv 1) pa_nil))) (pe_or (pe_not (C8.pe_c c_is_name hr (by first | decide | omega) rfl (pa_cons (pv 2) pa_nil))) (pe_one (pe_cmpR (op_in_seqK (K := K) rfl) (pv 1) (pe_fldK (K := K) rfl (pv 0) (by rfl)) (by rfl))))) pa_nil))))
    (pss_cons (ps_expr (C8.pe_c c_refuse hr (by first | decide | omega) rfl (pa_cons pe_str (pa_cons (pe_not (pe_chain op_le op_le pe_int (pe_callB (call_len_seqK (K := K) rfl) (by rfl) (z_len T) boot_len (pa_cons (pv 3) pa_nil)) (pe_g_MOST_ARGUMENTS rfl rfl))) pa_nil))))
    (pss_cons (ps_expr (C8.pe_c c_refuse hr (by first | decide | omega) rfl (pa_cons pe_str (pa_cons (C8.pe_c c_has_strange hr (by first | decide | omega) rfl (pa_cons (pv 0) (pa_cons (pv 3) pa_nil))) pa_nil))))
    (pss_cons (ps_expr (C8.pe_c c_refuse hr (by first | decide | omega) rfl (pa_cons pe_str (pa_cons (C8.pe_c c_has_measure hr (by first | decide | omega) rfl (pa_cons (pv 0) (pa_cons (pv 3) pa_nil))) pa_nil))))
    (pss_cons (ps_set (i := 4) sc_check_compute.nd rfl (Or.inl rfl) (pe_op op_add pe_int (pe_callB (cr_max rfl) (by rfl) (z_max T) boot_max (pa_cons (pe_lc (own := [("column", 5)]) rfl sc_check_compute.nd (pi_tupK (K := K) rfl (pv 3)) (blkOk_by (N := N_check_compute) (sc := defScope s_check_compute) (by decide +kernel)) (fun _ _ _ _ _ => (pg_name (i := 5) sc_check_compute.nd rfl (Or.inl rfl))) (fun _ _ _ _ _ => pts_nil) (fun _ _ _ _ _ => (pe_dget hu (pe_fldK (K := K) rfl (pv 0) (by rfl)) (pv 5) (fun _ _ => rfl)))) pa_nil))))
    (pss_cons (ps_expr (C8.pe_c c_refuse hr (by first | decide | omega) rfl (pa_cons pe_str (pa_cons (pe_cmpR op_gt (pv 4) (pe_g_MOST_DEEP rfl rfl) (nomark _)) pa_nil))))
    (pss_one (ps_ret (pv 4))))))))), ?_⟩
  refine ⟨_, rfl, G, n, rfl, nmn, hG, fun H1 s1 => ⟨_, rfl, _, rfl, iteF ?_⟩⟩
  refine ⟨_, rfl, G, f, rfl, nmf, s1.gh, fun H2 s2 => ⟨_, rfl, _, rfl, iteF ?_⟩⟩
  have s12 := s1.trans s2
  refine ⟨_, rfl, _, rfl, a, CSt K, dx, _, _, rfl, s12.gh _ _ h1, C0, noat_Step_columns T, h2.c, cc, sV st.cs, rfl, .inl (SqL.of (s12.gh _ _ h4)), rfl, sV_flat _, _, bl2 (show inV (.str (S n)) (sV st.cs) = false by rw [inV_sV]; exact decide_eq_false nin), ?_⟩
  have hc2 := sqT_same hc s12.all
  refine ⟨_, rfl, c, _, rfl, .inr hc2, _, _, rfl, rfl, _, rfl, ?_⟩
  refine ite2 (fun _ => ?_) (fun z => absurd (decide_eq_true (by omega)) z)
  refine ⟨_, _, rfl, rfl, _, rfl, ⟨_, bl2 (by rw [decide_eq_true (by omega)]; rfl), ?_⟩⟩
  refine ⟨_, rfl, _, rfl, G, a, c, st, ins, xs, rfl, s12.gh, ha, .inr hc2, by omega, fun H3 s3 => ⟨_, bl2 hp.strange, ?_⟩⟩
  have s13 := s12.trans s3
  refine ⟨_, rfl, _, rfl, G, a, c, st, ins, xs, rfl, s13.gh, ha, .inr (sqT_same hc s13.all), by omega, fun H4 s4 => ⟨_, bl2 hp.measure, ?_⟩⟩
  have s14 := s13.trans s4
  have hc4 := sqT_same hc s14.all
  refine ⟨_, rfl, c, rfl, ⟨_, hc4⟩, fun D hD => ?_⟩
  have gD := s14.gh.free hD
  have hD0 := s14.free hD
  refine lc_tup (K := K) (a := c) (xs := sV xs) (fun i H' => Step none G H G H' ∧ H' D = some (.lst ((depI st (xs.take i)).map V.int))) ⟨s14.loc hD0 gD, upd_same⟩ ?_ ?_ ?_
  · rintro i H' _ ⟨s', _⟩
    exact sqT_same hc s'.all
  · rintro i x H' hx ⟨s', hL⟩
    obtain ⟨k, mk, rfl, hi⟩ := sV_at' hx
    have hk := hp k (List.mem_of_getElem? mk)
    refine ⟨rfl, ?_⟩
    unfold tYes
    have hv : some (V.int (dep st k : Nat)) = valV (dV st.ds) (Sum.inr (S k)) := (dV_get (ok.dep hk.1 hk.2).1).symm
    refine iteT ⟨_, rfl, a, CSt K, dx, _, _, rfl, s'.gh _ _ h1, C0, noat_Step_depths T, h2.d, _, rfl, d, _, rfl, .inl ⟨dV st.ds, Sum.inr (S k), .inl (s'.gh _ _ h6), rfl, hv⟩, _, hL, by rw [List.length_map, List.length_map, List.length_take]; omega, s'.loc hD0 gD, ?_⟩
    rw [upd_same, ← in_take (f := fun x => ((dep st x : Nat) : Int)) mk]
  rintro H5 ⟨s5, hL⟩
  rw [hl, List.take_length] at hL
  refine ⟨D, _, rfl, SqL.of hL, by rw [List.length_map]; omega, fun m hm1 hm2 => ?_⟩
  obtain ⟨mn, rfl, mx⟩ := mx_of hm1 hm2
  obtain ⟨x, hx, hxm⟩ := mx.1
  have := hd x hx
  refine ⟨_, _, rfl, rfl, ?_⟩
  refine ⟨_, rfl, _, _, rfl, rfl, ⟨_, bl2 (decide_eq_false (by omega)), ?_⟩⟩
  have e1 : (1 : Int) + (mn : Int) = ((1 + mn : Nat) : Int) := by omega
  refine ⟨_, rfl, ?_⟩
  show Q (V.int ((1 : Int) + (mn : Int))) H5
  rw [e1]
  exact q H5 mn s5 mx
abbrev N_Step_compute : List Str := ["self", "name", "function", "columns", "deep"]
theorem sc_Step_compute : FnScope N_Step_compute ["self", "name", "function", "columns"] (defScope s_Step_compute) := ⟨rfl, rfl, rfl, by decide +kernel, rfl, by decide +kernel, by decide +kernel⟩
theorem tr_compute (T : Tx K mg) : MetR P w K mg base 4 (CSt K) "compute" (starS 3 (spMCompute K (CSt K))) := by
  obtain ⟨fd, F⟩ := f_Step_compute T
  have kp_Step_name_new_named := kp_Step_name_new_named (P := P) (w := w) (base := base) T
  have c_check_compute := c_check_compute (P := P) (w := w) (base := base) T
  obtain ⟨oc, od, dV', kV', doc, pm, an, cdv, ct, osl, rfl, lk, hcd, hD, _⟩ := F.ex
  obtain ⟨_, rfl⟩ | ⟨hne, _⟩ := hD
  rotate_left
  · exact absurd rfl hne
  refine ⟨_, cls_Step_ T, meth_Step_compute T, StX.fn_star (ps := ["self", "name", "function"]) (pv := "columns") (N := N_Step_compute) (sp := spMCompute K (CSt K)) lk hcd sc_Step_compute StX.cxUp_none (fun us rest hl => match us, rest, hl with | [_, _, _], [], _ => rfl | [_, _, _], _ :: _, _ => rfl) (fun A outer s H vs Q E hr h => ?_)⟩
  obtain ⟨G, a, c, n, f, st, ins, xs, rfl, nmn, nmf, nin, hG, ha, ok, hc, hp, l1, l2, hd, q⟩ := h
  obtain ⟨dx, i, cc, m, d, fs, h1, h2, h3, h4, h5, h6⟩ := ha.ex
  have C0 := cls_Step_ T
  have sl : sizeLine = 16777216 := rfl
  have hl := sV_len xs
  have hn := ok.ln
  have hdl := ok.dl
  suffices hh : ∃ t, PSs (cxOf C8.CX0 P w K mg base N_Step_compute d_Step_compute.2.qual d_Step_compute.2.scope (d_Step_compute.1 K) cdv A outer s H E).nox d_Step_compute.2.body t ∧ t { nx := fun _ H' => Q .non H', rt := Q } (start N_Step_compute [.ref a, .str (S n), .str (S f), .ref c]) H from
    let ⟨t, x1, x2⟩ := hh
    ⟨t, x1.nox, x2⟩
  refine ⟨_, (pss_cons (ps_set (i := 4) sc_Step_compute.nd rfl (Or.inl rfl) (C8.pe_c c_check_compute hr (by first | decide | omega) rfl (pa_cons (pv 0) (pa_cons (pv 1) (pa_cons (pv 2) (pa_cons (pv 3) pa_nil))))))
    (pss_one (ps_ret (pe_mkp kp_Step_name_new_named hr (by first | decide | omega) rfl (pa_cons pe_str (pa_cons (pe_tup (pa_cons (pv 0) pa_nil)) (pa_cons (pe_op op_cat (pe_fldK (K := K) rfl (pv 0) (by rfl)) (pe_lst (pa_cons (pv 1) pa_nil))) (pa_cons (pe_fldK (K := K) rfl (pv 0) (by rfl)) (pa_cons (Dm.pe_ds (pe_fldK (K := K) rfl (pv 0) (by rfl)) (pv 1) (pv 4)) pa_nil))))) (pk_cons (pv 2) (pk_cons (pv 1) (pk_cons (pv 3) pk_nil))))))), ?_⟩
  refine ⟨_, rfl, _, rfl, _, rfl, _, rfl, G, a, c, n, f, st, ins, xs, rfl, nmn, nmf, nin, hG, ha, ok, hc, hp, l1, l2, hd, fun H1 mn s1 mx => ?_⟩
  refine ⟨_, rfl, by show 1 ≤ sizeLine; decide, fun l hl' => ?_⟩
  have s4 : Step none G H (upd G l (.tup [.ref a])) (upd H1 l (.tup [.ref a])) := s1.new_ hl'
  have gl : upd G l (.tup [.ref a]) l = some (.tup [.ref a]) := upd_same
  generalize upd G l (.tup [.ref a]) = G4 at *
  generalize upd H1 l (.tup [.ref a]) = H4 at *
  refine ⟨_, rfl, a, CSt K, dx, _, _, rfl, s4.same _ _ (hG _ _ h1), C0, noat_Step_columns T, h2.c, _, rfl, by show 1 ≤ sizeLine; decide, fun b hb => ?_⟩
  have s5 := s4.loc (o := .lst [V.str (S n)]) (s4.free hb) (s4.gh.free hb)
  have hb5 : upd H4 b (.lst [V.str (S n)]) b = some (.lst (sV [n])) := upd_same
  generalize upd H4 b (.lst [V.str (S n)]) = H5 at *
  have hcc := s5.gh _ _ (s5.gg _ _ h4)
  refine ⟨cc, b, sV st.cs, sV [n], rfl, rfl, hcc, hb5, by rw [sV_len, sV_len]; show _ + 1 ≤ _; omega, fun e he => ?_⟩
  rw [sV_app]
  have s6 := s5.loc (o := .lst (sV (st.cs ++ [n]))) (s5.free he) (s5.gh.free he)
  have he6 : upd H5 e (.lst (sV (st.cs ++ [n]))) e = some (.lst (sV (st.cs ++ [n]))) := upd_same
  generalize upd H5 e (.lst (sV (st.cs ++ [n]))) = H6 at *
  refine ⟨_, rfl, a, CSt K, dx, _, _, rfl, s6.same _ _ (hG _ _ h1), C0, noat_Step_measures T, h2.m, ?_⟩
  intro D hD
  have hD0 := s6.free hD
  have gD := s6.gh.free hD
  have neD : e ≠ D := ne_of_none he6 hD
  have s7 := s6.loc (o := .dK []) hD0 gD
  have ddx : upd H6 D (.dK []) d = some (.dK (dV st.ds)) := s7.gh _ _ (s7.gg _ _ h6)
  have nDd : D ≠ d := fun z => by
    have := s6.gh _ _ (s6.gg _ _ h6)
    rw [← z, hD] at this
    cases this
  refine ⟨_, rfl, a, CSt K, dx, _, _, rfl, s7.same _ _ (hG _ _ h1), C0, noat_Step_depths T, h2.d, d, dV st.ds, rfl, upd_same, ddx, nDd, by rw [dV_len]; omega, ?_⟩
  rw [merge_dV _ ok.dn]
  intro B hB
  have hB0 : upd H6 D (.dK []) B = none := by
    by_cases z : B = D
    · rw [z, upd_same] at hB; cases hB
    · rw [upd_ne z] at hB ⊢; exact hB
  have nBD : B ≠ D := fun z => by rw [z, upd_same] at hB; cases hB
  have hB6 : H6 B = none := by rw [upd_ne nBD] at hB0; exact hB0
  have hno : n ∉ st.ds.map (·.1) := fun z => nin (ok.dk n z)
  refine ⟨_, rfl, _, rfl, Sum.inr (S n), _, rfl, upd_same, by rw [upd_ne nBD.symm, upd_same], ?_⟩
  rw [dV_put hno]
  have hBH := s6.free hB6
  have gB := s6.gh.free hB6
  have neB : e ≠ B := ne_of_none he6 hB6
  have s8 := ((((s6.loc (o := .dK []) hD0 gD).loc (o := .dK (dV st.ds)) hD0 gD).loc (o := .dK []) hBH gB).loc (o := .dK [(Sum.inr (S n), V.int ((1 + mn : Nat) : Int))]) hBH gB).loc (o := .dK (dV (st.ds ++ [(n, 1 + mn)]))) hD0 gD
  have he8 : (upd (upd (upd (upd (upd H6 D (.dK [])) D (.dK (dV st.ds))) B (.dK [])) B (.dK [(Sum.inr (S n), V.int ((1 + mn : Nat) : Int))])) D (.dK (dV (st.ds ++ [(n, 1 + mn)])))) e = some (.lst (sV (st.cs ++ [n]))) := by
    rw [upd_ne neD, upd_ne neB, upd_ne neB, upd_ne neD, upd_ne neD]
    exact he6
  have hD8 : (upd (upd (upd (upd (upd H6 D (.dK [])) D (.dK (dV st.ds))) B (.dK [])) B (.dK [(Sum.inr (S n), V.int ((1 + mn : Nat) : Int))])) D (.dK (dV (st.ds ++ [(n, 1 + mn)])))) D = some (.dK (dV (st.ds ++ [(n, 1 + mn)]))) := upd_same
  generalize (upd (upd (upd (upd (upd H6 D (.dK [])) D (.dK (dV st.ds))) B (.dK [])) B (.dK [(Sum.inr (S n), V.int ((1 + mn : Nat) : Int))])) D (.dK (dV (st.ds ++ [(n, 1 + mn)])))) = H8 at *
  refine ⟨_, rfl, _, rfl, _, rfl, rfl, rfl, fun x dx' hx hdx ne => ?_⟩
  have D0 := dfl_ T H8
  have nz : ((st.ds ++ [(n, 1 + mn)]).map (·.1)).Nodup := by
    rw [List.map_append, List.nodup_append]
    refine ⟨ok.dn, by simp, fun z hz y hy => ?_⟩
    rw [List.mem_singleton.mp hy]
    intro e
    have e : z = n := e
    exact hno (e ▸ hz)
  exact mkS (st := ⟨kCompute, st.cs ++ [n], st.ms, st.ds ++ [(n, 1 + mn)]⟩) s8.gh gl (.inl (SqL.of he8)) (SqL.of (s8.gh _ _ (s8.gg _ _ h5))) hD8 nz (by rw [List.length_append]; show _ + 1 ≤ _; omega) (.inr (sqT_same hc s8.all)) D0.p D0.s (fun G' H' s9 at1 hx0 => q mn mx G' H' x (s8.trans s9) at1 (s8.free hx0)) hx hdx ne
end Pf
namespace Bs
open PySem PySem.Spec PyProof.Rows L2 SX
variable {P : Program} {w : World} {K : PySem.W.Frag} {mg : Str → Option Value} {base : Heap}
theorem count_ : ("count" : Str) = S [99, 111, 117, 110, 116] := by decide +kernel
theorem sum_ : ("sum" : Str) = S [115, 117, 109] := by decide +kernel
theorem op_neDK {X : Cx} (hK : X.K = K) (hu : X.A.units + 64 < cLine) : OpR X (compareOp .NotEq) (rNeD K) := by subst hK; exact op_neD hu
theorem lt64 {A : Around} {k : Nat} (hr : Room k A) : A.units + 64 < cLine := by have := hr.un; omega
/-- a measure: a count, or the sum of a column -/
abbrev Ms := Option (List Nat)
def MsAt (K : PySem.W.Frag) (H : Hp) (v : V) : Ms → Prop
  | none => v = .str "count"
  | some c => ∃ t, v = .ref t ∧ SqT K H t [.str "sum", .str (S c)]
theorem MsAt.same {G H : Hp} {v : V} {m : Ms} (h : MsAt K G v m) (s : Same G H) : MsAt K H v m := by
  cases m with
  | none => exact h
  | some c =>
    obtain ⟨t, e, q⟩ := h
    exact ⟨t, e, sqT_same q s⟩
def msD : Ms → PyData
  | none => .str "count"
  | some c => .tuple [.str "sum", .str (S c)]
theorem MsAt.dp {H : Hp} {v : V} {m : Ms} (h : MsAt K H v m) : Dp K H v (msD m) := by
  cases m with
  | none =>
    rw [show v = .str "count" from h]
    exact .str _
  | some c =>
    obtain ⟨t, rfl, q⟩ := h
    exact .tup q (.cons (.str _) (.cons (.str _) .nil))
theorem ms_shaped {m : Ms} (h : ∀ c, m = some c → Nm c) : SeqAt.shaped (msD m) = true := by
  cases m with
  | none =>
    have e : PyData.strOk "count" = true := by decide +kernel
    unfold SeqAt.shaped
    simp [msD, PyData.canLay0, PyData.depth, e]
  | some c =>
    have e : PyData.strOk "sum" = true := by decide +kernel
    have e2 := (h c rfl).ok
    unfold SeqAt.shaped
    simp [msD, PyData.canLay0, PyData.canLayAll0, PyData.depth, PyData.depthAll, e, e2]
theorem count_shaped : SeqAt.shaped (.str "count") = true := ms_shaped (m := none) (fun _ h => by cases h)
theorem ms_eqv (m : Ms) : PyData.eqv (msD m) (.str "count") = m.isNone := by
  cases m <;> simp [msD, PyData.eqv]
/-- a measure with its name -/
def PairAt (K : PySem.W.Frag) (H : Hp) (v : V) (u : List Nat × Ms) : Prop := ∃ p mv, v = .ref p ∧ SqT K H p [.str (S u.1), mv] ∧ MsAt K H mv u.2
theorem PairAt.same {G H : Hp} {v : V} {u : List Nat × Ms} (h : PairAt K G v u) (s : Same G H) : PairAt K H v u := by
  obtain ⟨p, mv, e, q, r⟩ := h
  exact ⟨p, mv, e, sqT_same q s, r.same s⟩
def PairsAt (K : PySem.W.Frag) (H : Hp) (ul : List V) (us : List (List Nat × Ms)) : Prop := Paired (PairAt K H) ul us
theorem PairsAt.same {G H : Hp} {ul : List V} {us : List (List Nat × Ms)} (h : PairsAt K G ul us) (s : Same G H) : PairsAt K H ul us := by
  unfold PairsAt at h ⊢
  induction h with
  | nil => exact .nil
  | cons a _ ih => exact .cons (a.same s) ih
theorem PairsAt.get {H : Hp} {ul : List V} {us : List (List Nat × Ms)} (h : PairsAt K H ul us) {i : Nat} {v : V} (e : ul[i]? = some v) : ∃ u, us[i]? = some u ∧ PairAt K H v u := LiI.paired_get h e
/-- the columns that are summed -/
abbrev sums (us : List (List Nat × Ms)) : List (List Nat) := us.filterMap (·.2)
theorem sums_take {us : List (List Nat × Ms)} {i : Nat} {u : List Nat × Ms} (h : us[i]? = some u) : sums (us.take (i + 1)) = sums (us.take i) ++ u.2.toList := by
  unfold sums
  rw [List.take_succ, h, List.filterMap_append]
  congr 1
theorem sums_le (us : List (List Nat × Ms)) : (sums us).length ≤ us.length := List.length_filterMap_le _ _
structure GrOk (st : Stp) (xs : List (List Nat)) (us : List (List Nat × Ms)) : Prop where
  pl : Pl st xs
  nd : xs.Nodup
  l4 : xs.length ≤ 4
  l3 : us.length ≤ 3
  l1 : 1 ≤ xs.length + us.length
  un : (us.map (·.1)).Nodup
  nm : ∀ u ∈ us, Nm u.1 ∧ u.1 ∉ xs
  col : ∀ u ∈ us, ∀ c, u.2 = some c → c ∈ st.cs ∧ Nm c
def spIsSum (K : PySem.W.Frag) : Sp := fun vs H Q _ => ∃ (v : V) (m : Ms), vs = [v] ∧ MsAt K H v m ∧ Q (.bl m.isSome) H
def spCGroup (K : PySem.W.Frag) (C : Addr) : Sp := fun vs H Q _ => ∃ (G : Hp) (a c l : Addr) (st : Stp) (ins ul : List V) (xs : List (List Nat)) (us : List (List Nat × Ms)), vs = [.ref a, .ref c, .ref l] ∧ Same G H ∧ StAt K C G a st ins ∧ SqT K H c (sV xs) ∧ H l = some (.lst ul) ∧ PairsAt K H ul us ∧ GrOk st xs us ∧
  ∀ H' : Hp, Step none G H G H' → Q .non H'
end Bs
namespace Pf
open PySem PySem.Spec PyProof.Rows L2 Bs SX
variable {P : Program} {w : World} {K : PySem.W.Frag} {mg : Str → Option Value} {base : Heap}
abbrev N_is_sum : List Str := ["measure"]
theorem sc_is_sum : FnScope N_is_sum ["measure"] (defScope s_is_sum) := ⟨rfl, rfl, rfl, by decide +kernel, rfl, by decide +kernel, by decide +kernel⟩
theorem c_is_sum (T : Tx K mg) : C8.Cal P w K mg base 1 "_is_sum" (spIsSum K) [] := by
  obtain ⟨fd, F⟩ := f_is_sum T
  refine mkCal F (g_is_sum T) (F.bindsN fun _ _ _ _ _ _ us hl => match us, hl with | [_], _ => rfl) .nil sc_is_sum (fun vs H Q E h => ?_) (fun cdv A outer s H vs Q E hr h => ?_)
  · obtain ⟨v, m, rfl, _⟩ := h
    rfl
  obtain ⟨v, m, rfl, hm, q⟩ := h
  refine ⟨_, (pss_one (ps_ret (pe_and (pe_callB (call_isiK' (K := K) rfl) (by rfl) (z_isinstance T) boot_isinstance (pa_cons (pv 0) (pa_cons (pe_bltn (v := .ty "tuple") (by rfl) (z_tuple T) boot_tuple rfl) pa_nil))) (pe_and (pe_cmpR op_eq (pe_callB (call_len_seqK (K := K) rfl) (by rfl) (z_len T) boot_len (pa_cons (pv 0) pa_nil)) pe_int (nomark _)) (pe_one (pe_cmpR op_eq (pe_ix (ix_tupK (K := K) rfl) (pv 0) pe_int (fun _ _ => rfl)) pe_str (nomark _))))))), ?_⟩
  cases m with
  | none =>
    obtain rfl : v = .str "count" := hm
    exact ⟨_, rfl, _, _, .type "str", .type "tuple", false, rfl, .ty "tuple", .base (.str _), kit_ty (by decide +kernel), _, rfl, iteF q⟩
  | some c =>
    obtain ⟨t, rfl, ht⟩ := hm
    refine ⟨_, rfl, _, _, .type "tuple", .type "tuple", true, rfl, .ty "tuple", sqT_ty ht, kit_ty (by decide +kernel), _, rfl, iteT ?_⟩
    refine ⟨_, rfl, t, _, rfl, .inr ht, rfl, _, rfl, ?_⟩
    refine ite2 (fun _ => ?_) (fun c => absurd (decide_eq_true rfl) c)
    exact ⟨_, rfl, t, _, 0, _, rfl, rfl, ht, atI_nat (j := 0) rfl, rfl, q⟩
abbrev N_check_group : List Str := ["source", "columns", "sums", "names", "wrong", "summed", "name", "_", "measure"]
theorem sc_check_group : FnScope N_check_group ["source", "columns", "sums"] (defScope s_check_group) := ⟨rfl, rfl, rfl, by decide +kernel, rfl, by decide +kernel, by decide +kernel⟩
theorem c_check_group (T : Tx K mg) : C8.Cal P w K mg base 3 "check_group" (spCGroup K (CSt K)) [] := by
  obtain ⟨fd, F⟩ := f_check_group T
  have c_refuse := c_refuse (P := P) (w := w) (base := base) T
  have c_is_name := c_is_name (P := P) (w := w) (base := base) T
  have c_has_twice := c_has_twice (P := P) (w := w) (base := base) T
  have c_is_sum := c_is_sum (P := P) (w := w) (base := base) T
  have c_has_strange := c_has_strange (P := P) (w := w) (base := base) T
  have c_has_measure := c_has_measure (P := P) (w := w) (base := base) T
  have pe_g_MOST_KEYS : ∀ {X : Cx} {pos : Pos}, X.mg = mg → Gl X "MOST_KEYS" → PE X (.Name "MOST_KEYS" pos) (tC (.int 4)) := fun h1 h2 => by
    obtain ⟨t, e⟩ := ci_MOST_KEYS T
    exact pe_glob h2 (by rw [h1]; exact e) ⟨t, rfl⟩
  have pe_g_MOST_MEASURES : ∀ {X : Cx} {pos : Pos}, X.mg = mg → Gl X "MOST_MEASURES" → PE X (.Name "MOST_MEASURES" pos) (tC (.int 3)) := fun h1 h2 => by
    obtain ⟨t, e⟩ := ci_MOST_MEASURES T
    exact pe_glob h2 (by rw [h1]; exact e) ⟨t, rfl⟩
  refine mkCal F (g_check_group T) (F.bindsN fun _ _ _ _ _ _ us hl => match us, hl with | [_, _, _], _ => rfl) .nil sc_check_group (fun vs H Q E h => ?_) (fun cdv A outer s H vs Q E hr h => ?_)
  · obtain ⟨G, a, c, l, st, ins, ul, xs, us, rfl, _⟩ := h
    rfl
  obtain ⟨G, a, c, l, st, ins, ul, xs, us, rfl, hG, ha, hc, hl, hp, ok, q⟩ := h
  have sl : sizeLine = 16777216 := rfl
  have hx := sV_len xs
  have h3 := ok.l3
  have h4 := ok.l4
  have hul : ul.length = us.length := Paired.length hp
  refine ⟨_, (pss_cons (ps_setLc (i := 3) (own := [("name", 6), ("_", 7)]) rfl sc_check_group.nd rfl rfl (sw_true rfl rfl rfl (by decide +kernel)) (pi_listK (K := K) rfl (pv 2)) (blkOk_by (N := N_check_group) (sc := defScope s_check_group) (by decide +kernel)) (fun _ _ _ _ _ => (pg_tupK (K := K) (n := 2) rfl rfl (pgs_cons (pg_name (i := 6) sc_check_group.nd rfl (Or.inl rfl)) (pgs_cons (pg_name (i := 7) sc_check_group.nd rfl (Or.inl rfl)) pgs_nil)))) (fun _ _ _ _ _ => pts_nil) (fun _ _ _ _ _ => (pv 6)))
    (pss_cons (ps_setLc (i := 4) (own := [("name", 6)]) rfl sc_check_group.nd rfl rfl (sw_true rfl rfl rfl (by decide +kernel)) (pi_listK (K := K) rfl (pv 3)) (blkOk_by (N := N_check_group) (sc := defScope s_check_group) (by decide +kernel)) (fun _ _ _ _ _ => (pg_name (i := 6) sc_check_group.nd rfl (Or.inl rfl))) (fun _ _ _ _ _ => pts_one (PW.pt (pw_or (pt_not (pt_val (C8.pe_c c_is_name hr (by first | decide | omega) rfl (pa_cons (pv 6) pa_nil)))) (pw_or1 (pt_cmpR (op_in_seqK (K := K) rfl) (pv 6) (pv 1) (by rfl)))))) (fun _ _ _ _ _ => (pv 6)))
    (pss_cons (ps_expr (C8.pe_c c_refuse hr (by first | decide | omega) rfl (pa_cons pe_str (pa_cons (pe_or (pe_cmpR op_gt (pe_callB (call_len_seqK (K := K) rfl) (by rfl) (z_len T) boot_len (pa_cons (pv 4) pa_nil)) pe_int (nomark _)) (pe_one (C8.pe_c c_has_twice hr (by first | decide | omega) rfl (pa_cons (pv 3) pa_nil)))) pa_nil))))
    (pss_cons (ps_expr (C8.pe_c c_refuse hr (by first | decide | omega) rfl (pa_cons pe_str (pa_cons (pe_or (pe_cmpR op_gt (pe_callB (call_len_seqK (K := K) rfl) (by rfl) (z_len T) boot_len (pa_cons (pv 1) pa_nil)) (pe_g_MOST_KEYS rfl rfl) (nomark _)) (pe_one (pe_cmpR op_gt (pe_callB (call_len_seqK (K := K) rfl) (by rfl) (z_len T) boot_len (pa_cons (pv 2) pa_nil)) (pe_g_MOST_MEASURES rfl rfl) (nomark _)))) pa_nil))))
    (pss_cons (ps_expr (C8.pe_c c_refuse hr (by first | decide | omega) rfl (pa_cons pe_str (pa_cons (pe_cmpR op_eq (pe_op op_add (pe_callB (call_len_seqK (K := K) rfl) (by rfl) (z_len T) boot_len (pa_cons (pv 1) pa_nil)) (pe_callB (call_len_seqK (K := K) rfl) (by rfl) (z_len T) boot_len (pa_cons (pv 2) pa_nil))) pe_int (nomark _)) pa_nil))))
    (pss_cons (ps_setLc (i := 5) (own := [("_", 7), ("measure", 8)]) rfl sc_check_group.nd rfl rfl (sw_true rfl rfl rfl (by decide +kernel)) (pi_listK (K := K) rfl (pv 2)) (blkOk_by (N := N_check_group) (sc := defScope s_check_group) (by decide +kernel)) (fun _ _ _ _ _ => (pg_tupK (K := K) (n := 2) rfl rfl (pgs_cons (pg_name (i := 7) sc_check_group.nd rfl (Or.inl rfl)) (pgs_cons (pg_name (i := 8) sc_check_group.nd rfl (Or.inl rfl)) pgs_nil)))) (fun _ _ _ _ _ => pts_one (pt_val (C8.pe_c c_is_sum hr (by first | decide | omega) rfl (pa_cons (pv 8) pa_nil)))) (fun _ _ _ _ _ => (pe_ix (ix_tupK (K := K) rfl) (pv 8) pe_int (fun _ _ => rfl))))
    (pss_cons (ps_expr (C8.pe_c c_refuse hr (by first | decide | omega) rfl (pa_cons pe_str (pa_cons (pe_or (C8.pe_c c_has_strange hr (by first | decide | omega) rfl (pa_cons (pv 0) (pa_cons (pe_op op_cat (pe_callTy call_list_of (by rfl) (z_list T) boot_list (pa_cons (pv 1) pa_nil)) (pv 5)) pa_nil))) (pe_one (C8.pe_c c_has_twice hr (by first | decide | omega) rfl (pa_cons (pv 1) pa_nil)))) pa_nil))))
    (pss_cons (ps_expr (C8.pe_c c_refuse hr (by first | decide | omega) rfl (pa_cons pe_str (pa_cons (pe_callB (cr_any rfl) (by rfl) (z_any T) boot_any (pa_cons (pe_lc (own := [("_", 7), ("measure", 8)]) rfl sc_check_group.nd (pi_listK (K := K) rfl (pv 2)) (blkOk_by (N := N_check_group) (sc := defScope s_check_group) (by decide +kernel)) (fun _ _ _ _ _ => (pg_tupK (K := K) (n := 2) rfl rfl (pgs_cons (pg_name (i := 7) sc_check_group.nd rfl (Or.inl rfl)) (pgs_cons (pg_name (i := 8) sc_check_group.nd rfl (Or.inl rfl)) pgs_nil)))) (fun _ _ _ _ _ => pts_nil) (fun _ _ _ _ _ => (pe_and (pe_cmpR (op_neDK (K := K) rfl (lt64 hr)) (pv 8) pe_str (nomark _)) (pe_one (pe_not (C8.pe_c c_is_sum hr (by first | decide | omega) rfl (pa_cons (pv 8) pa_nil))))))) pa_nil)) pa_nil))))
    (pss_one (ps_expr (C8.pe_c c_refuse hr (by first | decide | omega) rfl (pa_cons pe_str (pa_cons (C8.pe_c c_has_measure hr (by first | decide | omega) rfl (pa_cons (pv 0) (pa_cons (pv 1) pa_nil))) pa_nil))))))))))))), ?_⟩
  refine ⟨_, rfl, l, rfl, ⟨_, SqL.of hl⟩, fun D hD => ?_⟩
  have gD := hG.free hD
  refine lc_list (K := K) (a := l) (xs := ul) (fun i H' => Step none G H G H' ∧ H' D = some (.lst (sV ((us.take i).map (·.1))))) ⟨(Step.refl hG).loc hD gD, upd_same⟩ ?_ ?_ ?_
  · rintro i H' _ ⟨s', _⟩
    exact SqL.of (s'.all _ _ hl)
  · rintro i x H' hx' ⟨s', hL⟩
    obtain ⟨u, hu, p, mv, rfl, hpq, hmv⟩ := (hp.same s'.all).get hx'
    have hi := (List.getElem?_eq_some_iff.mp hu).1
    refine ⟨p, _, rfl, hpq, rfl, _, _, rfl, _, _, rfl, rfl, rfl, ?_⟩
    unfold tYes
    refine iteT ⟨_, rfl, _, hL, by rw [sV_len, List.length_map, List.length_take]; omega, s'.loc hD gD, ?_⟩
    rw [upd_same, List.take_succ, hu, List.map_append, ← sV_app]
    rfl
  rintro H1 ⟨s1, hD1⟩
  rw [hul, List.take_length] at hD1
  have hnl : (sV (us.map (·.1))).length = us.length := by rw [sV_len, List.length_map]
  refine ⟨_, rfl, D, rfl, ⟨_, SqL.of hD1⟩, fun D2 hD2 => ?_⟩
  have gD2 := s1.gh.free hD2
  have hD20 := s1.free hD2
  have nD : D ≠ D2 := ne_of_none hD1 hD2
  have hc1 := sqT_same hc s1.all
  refine lc_list (K := K) (a := D) (xs := sV (us.map (·.1))) (fun i H' => Step none G H G H' ∧ Same H1 H' ∧ H' D2 = some (.lst [])) ⟨s1.loc hD20 gD2, Same.new (Same.refl H1) hD2, upd_same⟩ ?_ ?_ ?_
  · rintro i H' _ ⟨s', k', _⟩
    exact SqL.of (k' _ _ hD1)
  · rintro i x H' hx' ⟨s', k', hL⟩
    obtain ⟨k, mk, rfl, hi⟩ := sV_at' hx'
    rw [List.getElem?_map] at mk
    cases eu : us[i]? with
    | none => rw [eu] at mk; cases mk
    | some u =>
    rw [eu] at mk
    obtain rfl : u.1 = k := Option.some.inj mk
    have hu := ok.nm u (List.mem_of_getElem? eu)
    refine ⟨rfl, ?_⟩
    refine ⟨_, rfl, G, u.1, rfl, hu.1, s'.gh, fun H2 s2 => ?_⟩
    refine ⟨_, rfl, iteF ?_⟩
    refine ⟨_, rfl, _, rfl, c, sV xs, rfl, .inr (sqT_same hc1 (k'.trans s2.all)), rfl, sV_flat _, _, rfl, ?_⟩
    have e0 : inV (.str (S u.1)) (sV xs) = false := by rw [inV_sV]; exact decide_eq_false hu.2
    have s3 := s'.trans s2
    show if inV (.str (S u.1)) (sV xs) = true then _ else _
    rw [e0]
    refine iteF ⟨s3, k'.trans s2.all, s2.all _ _ hL⟩
  rintro H2 ⟨s2, k2, hD22⟩
  have hD1' := k2 _ _ hD1
  have hc2 := sqT_same hc1 k2
  have hl2 := s2.all _ _ hl
  have hp2 := hp.same s2.all
  have nd := ok.un
  refine ⟨_, rfl, D2, _, rfl, .inl (SqL.of hD22), _, _, rfl, rfl, _, rfl, ?_⟩
  refine iteF ⟨_, rfl, D, us.map (·.1), rfl, .inl (SqL.of hD1'), ok.un, by rw [List.length_map]; omega, _, bl2 rfl, ?_⟩
  refine ⟨_, rfl, c, _, rfl, .inr hc2, _, _, rfl, rfl, _, rfl, ?_⟩
  refine ite2 (fun z => absurd z (by rw [decide_eq_true_eq]; omega)) (fun _ => ?_)
  refine ⟨_, rfl, l, _, rfl, .inl (SqL.of hl2), _, _, rfl, rfl, _, bl2 (decide_eq_false (by omega)), ?_⟩
  refine ⟨_, rfl, c, _, rfl, .inr hc2, _, rfl, l, _, rfl, .inl (SqL.of hl2), _, _, rfl, rfl, rfl, _, bl2 (decide_eq_false fun e => by have := V.int.inj e; have := ok.l1; omega), ?_⟩
  -- the columns that are summed
  refine ⟨_, rfl, l, rfl, ⟨_, SqL.of hl2⟩, fun D3 hD3 => ?_⟩
  have gD3 := s2.gh.free hD3
  have hD30 := s2.free hD3
  refine lc_list (K := K) (a := l) (xs := ul) (fun i H' => Step none G H G H' ∧ Same H2 H' ∧ H' D3 = some (.lst (sV (sums (us.take i))))) ⟨s2.loc hD30 gD3, Same.new (Same.refl H2) hD3, upd_same⟩ ?_ ?_ ?_
  · rintro i H' _ ⟨s', k', _⟩
    exact SqL.of (k' _ _ hl2)
  · rintro i x H' hx' ⟨s', k', hL⟩
    obtain ⟨u, hu, p, mv, rfl, hpq, hmv⟩ := (hp2.same k').get hx'
    have hi := (List.getElem?_eq_some_iff.mp hu).1
    have hs := sums_take hu
    have hle := sums_le (us.take i)
    rw [List.length_take] at hle
    refine ⟨p, _, rfl, hpq, rfl, _, _, rfl, _, _, rfl, rfl, rfl, ?_⟩
    refine ⟨_, rfl, mv, u.2, rfl, hmv, _, rfl, ?_⟩
    cases em : u.2 with
    | none =>
      rw [em] at hs
      refine iteF ⟨s', k', ?_⟩
      rw [hs]
      show H' D3 = some (.lst (sV (_ ++ [])))
      rw [List.append_nil]
      exact hL
    | some c' =>
      rw [em] at hs hmv
      obtain ⟨t, rfl, ht⟩ := hmv
      refine iteT ⟨_, rfl, t, _, 1, _, rfl, rfl, ht, atI_nat (j := 1) rfl, _, hL, by rw [sV_len]; omega, s'.loc hD30 gD3, Same.off k' hD3, ?_⟩
      rw [upd_same, hs, ← sV_app]
      rfl
  rintro H3 ⟨s3, k3, hD3'⟩
  rw [show ul.length = us.length from hul, List.take_length] at hD3'
  have hc3 := sqT_same hc2 k3
  have hl3 := k3 _ _ hl2
  have hp3 := hp2.same k3
  have hsl := sums_le us
  refine ⟨_, rfl, _, rfl, c, _, rfl, .inr hc3, fun e he => ?_⟩
  have s4 := s3.loc (o := .lst (sV xs)) (s3.free he) (s3.gh.free he)
  have k4 : Same H3 (upd H3 e (.lst (sV xs))) := Same.new (Same.refl H3) he
  have he4 : upd H3 e (.lst (sV xs)) e = some (.lst (sV xs)) := upd_same
  generalize upd H3 e (.lst (sV xs)) = H4 at *
  refine ⟨_, rfl, e, D3, _, _, rfl, rfl, he4, k4 _ _ hD3', by rw [sV_len, sV_len]; omega, fun b hb => ?_⟩
  rw [sV_app]
  have s5 := s4.loc (o := .lst (sV (xs ++ sums us))) (s4.free hb) (s4.gh.free hb)
  have k5 : Same H4 (upd H4 b (.lst (sV (xs ++ sums us)))) := Same.new (Same.refl H4) hb
  have hb5 : upd H4 b (.lst (sV (xs ++ sums us))) b = some (.lst (sV (xs ++ sums us))) := upd_same
  generalize upd H4 b (.lst (sV (xs ++ sums us))) = H5 at *
  refine ⟨G, a, b, st, ins, xs ++ sums us, rfl, s5.gh, ha, .inl (SqL.of hb5), by rw [List.length_append]; omega, fun H6 s6 => ?_⟩
  have no6 : ((xs ++ sums us).any fun x => !decide (x ∈ st.cs)) = false := any_no fun x hx => by
    have : x ∈ st.cs := by
      rcases List.mem_append.mp hx with h | h
      · exact (ok.pl x h).1
      · obtain ⟨u, hu, e⟩ := List.mem_filterMap.mp h
        exact (ok.col u hu x e).1
    rw [decide_eq_true this]
    rfl
  have s56 := s5.trans s6
  have k6 := k4.trans (k5.trans s6.all)
  have hc6 := sqT_same hc3 k6
  have hl6 := k6 _ _ hl3
  have hp6 := hp3.same k6
  rw [no6]
  refine ⟨_, rfl, iteF ⟨_, rfl, c, xs, rfl, .inr hc6, ok.nd, by omega, _, bl2 rfl, ?_⟩⟩
  -- no other measure
  refine ⟨_, rfl, l, rfl, ⟨_, SqL.of hl6⟩, fun D4 hD4 => ?_⟩
  have gD4 := s56.gh.free hD4
  have hD40 := s56.free hD4
  refine lc_list (K := K) (a := l) (xs := ul) (fun i H' => Step none G H G H' ∧ Same H6 H' ∧ H' D4 = some (.lst ((List.replicate i false).map V.bl))) ⟨s56.loc hD40 gD4, Same.new (Same.refl H6) hD4, upd_same⟩ ?_ ?_ ?_
  · rintro i H' _ ⟨s', k', _⟩
    exact SqL.of (k' _ _ hl6)
  · rintro i x H' hx' ⟨s', k', hL⟩
    obtain ⟨u, hu, p, mv, rfl, hpq, hmv⟩ := (hp6.same k').get hx'
    have hi := (List.getElem?_eq_some_iff.mp hu).1
    have hcol := ok.col u (List.mem_of_getElem? hu)
    refine ⟨p, _, rfl, hpq, rfl, _, _, rfl, _, _, rfl, rfl, rfl, ?_⟩
    unfold tYes
    refine iteT ⟨_, rfl, msD u.2, _, hmv.dp, .str _, ms_shaped (fun c h => (hcol c h).2), count_shaped, _, rfl, ?_⟩
    rw [ms_eqv]
    cases em : u.2 with
    | none =>
      refine iteF ⟨_, hL, by rw [List.length_map, List.length_replicate]; omega, s'.loc hD40 gD4, Same.off k' hD4, ?_⟩
      rw [upd_same, rep_app]
    | some c' =>
      refine iteT ⟨_, rfl, mv, u.2, rfl, hmv, _, rfl, ?_⟩
      rw [em]
      refine ⟨_, hL, by rw [List.length_map, List.length_replicate]; omega, s'.loc hD40 gD4, Same.off k' hD4, ?_⟩
      rw [upd_same, ← rep_app]
      rfl
  rintro H7 ⟨s7, k7, hD7⟩
  have any_rep : ∀ n : Nat, (List.replicate n false).any id = false := fun n => by
    rw [List.any_eq_false]
    intro x hx
    rw [(List.mem_replicate.mp hx).2]
    exact Bool.false_ne_true
  refine ⟨D4, _, rfl, SqL.of hD7, _, bl2 (any_rep _), ?_⟩
  exact ⟨_, rfl, _, rfl, G, a, c, st, ins, xs, rfl, s7.gh, ha, .inr (sqT_same hc6 k7), by omega, fun H8 s8 => ⟨_, bl2 ok.pl.measure, q H8 (s7.trans s8)⟩⟩
end Pf
namespace Bs
open PySem PySem.Spec PyProof.Rows L2 SX
variable {P : Program} {w : World} {K : PySem.W.Frag} {mg : Str → Option Value} {base : Heap}
/-- the group by these keys with these measures -/
abbrev grSt (st : Stp) (xs : List (List Nat)) (us : List (List Nat × Ms)) : Stp := ⟨kGroup, xs ++ us.map (·.1), us.map (·.1), dsOf st xs⟩
def spMGrouped (K : PySem.W.Frag) (C : Addr) : Sp := fun vs H Q _ => ∃ (G : Hp) (a c l : Addr) (st : Stp) (ins ul : List V) (xs : List (List Nat)) (us : List (List Nat × Ms)), vs = [.ref a, .ref c, .ref l] ∧ Same G H ∧ StAt K C G a st ins ∧ OkS st ∧ SqT K H c (sV xs) ∧ H l = some (.lst ul) ∧ PairsAt K H ul us ∧ GrOk st xs us ∧
  MkSt K C G H (grSt st xs us) [.ref a] Q
/-- keywords: names and measures -/
def KvAt (K : PySem.W.Frag) (H : Hp) (q : Key × V) (u : List Nat × Ms) : Prop := q.1 = Sum.inr (S u.1) ∧ MsAt K H q.2 u.2
def spMGroupBy (K : PySem.W.Frag) (C : Addr) : Sp := fun vs H Q _ => ∃ (G : Hp) (a c d : Addr) (st : Stp) (ins : List V) (kvs : List (Key × V)) (xs : List (List Nat)) (us : List (List Nat × Ms)), vs = [.ref a, .ref c, .ref d] ∧ Same G H ∧ StAt K C G a st ins ∧ OkS st ∧ SqT K H c (sV xs) ∧ H d = some (.dK kvs) ∧ Paired (KvAt K H) kvs us ∧ GrOk st xs us ∧
  MkSt K C G H (grSt st xs us) [.ref a] Q
theorem paired_two {α β γ : Type} {F : α → β → Prop} {F2 : β → γ → Prop} {F3 : α → γ → Prop} (h : ∀ a b c, F a b → F2 b c → F3 a c) : ∀ {xs : List α} {ys : List β} {zs : List γ}, Paired F xs ys → Paired F2 ys zs → Paired F3 xs zs
  | _, _, _, .nil, .nil => .nil
  | _, _, _, .cons a t, .cons b u => .cons (h _ _ _ a b) (paired_two h t u)
theorem paired_map {α β γ : Type} {F : β → γ → Prop} {f : α → β} : ∀ {xs : List α} {ys : List γ}, Paired (fun a c => F (f a) c) xs ys → Paired F (xs.map f) ys
  | _, _, .nil => .nil
  | _, _, .cons a t => .cons a (paired_map t)
def spScan (K : PySem.W.Frag) (CT C : Addr) : Sp := fun vs H Q _ => ∃ (G : Hp) (a : Addr) (b : Br), vs = [.ref a] ∧ Same G H ∧ TbAt K CT G a b ∧ Ok b ∧ MkSt K C G H ⟨kScan, b.cs, [], b.cs.map fun c => (c, 0)⟩ [] Q
end Bs
namespace Pf
open PySem PySem.Spec PyProof.Rows L2 Bs SX
variable {P : Program} {w : World} {K : PySem.W.Frag} {mg : Str → Option Value} {base : Heap}
abbrev N_Step_grouped : List Str := ["self", "columns", "sums", "depths", "names", "column", "name", "_"]
theorem sc_Step_grouped : FnScope N_Step_grouped ["self", "columns", "sums"] (defScope s_Step_grouped) := ⟨rfl, rfl, rfl, by decide +kernel, rfl, by decide +kernel, by decide +kernel⟩
theorem t_grouped (T : Tx K mg) : C8.Met P w K mg base 4 (CSt K) "_grouped" (spMGrouped K (CSt K)) [] := by
  obtain ⟨fd, F⟩ := f_Step_grouped T
  have kp_Step_named_sums := kp_Step_named_sums (P := P) (w := w) (base := base) T
  have c_check_group := c_check_group (P := P) (w := w) (base := base) T
  have RB : Binds K fd ["self", "columns", "sums"] [] := F.bindsN fun _ _ _ _ _ _ us hl => match us, hl with | [_, _, _], _ => rfl
  have RO : FnOk P w K mg base C8.CX0 4 (He.ma K (CSt K) "_grouped") fd ["self", "columns", "sums"] (spMGrouped K (CSt K)) := by
    refine ok0' F sc_Step_grouped (fun vs H Q E h => ?_) (fun cdv A outer s H vs Q E hr h => ?_)
    · obtain ⟨G, a, c, l, st, ins, ul, xs, us, rfl, _⟩ := h
      rfl
    obtain ⟨G, a, c, l, st, ins, ul, xs, us, rfl, hG, ha, oks, hc, hl, hp, ok, q⟩ := h
    obtain ⟨dx, i, cc, m, d, fs, h1, h2, h3, h4, h5, h6⟩ := ha.ex
    have C0 := cls_Step_ T
    have hu := hu_of hr
    have sl : sizeLine = 16777216 := rfl
    have hx := sV_len xs
    have g3 := ok.l3
    have g4 := ok.l4
    have hul : ul.length = us.length := Paired.length hp
    refine ⟨_, (pss_cons (ps_expr (C8.pe_c c_check_group hr (by first | decide | omega) rfl (pa_cons (pv 0) (pa_cons (pv 1) (pa_cons (pv 2) pa_nil)))))
    (pss_cons (Dm.ps_setDc (i := 3) (own := [("column", 5)]) rfl sc_Step_grouped.nd rfl rfl (Dm.sw_dict rfl rfl rfl (by decide +kernel)) (pi_tupK (K := K) rfl (pv 1)) (blkOk_by (N := N_Step_grouped) (sc := defScope s_Step_grouped) (by decide +kernel)) (fun _ _ _ _ _ => (pg_name (i := 5) sc_Step_grouped.nd rfl (Or.inl rfl))) (fun _ _ _ _ _ => pts_nil) (fun _ _ _ _ _ => (pv 5)) (fun _ _ _ _ _ => (pe_dget hu (pe_fldK (K := K) rfl (pv 0) (by rfl)) (pv 5) (fun _ _ => rfl))))
    (pss_cons (ps_setLc (i := 4) (own := [("name", 6), ("_", 7)]) rfl sc_Step_grouped.nd rfl rfl (sw_true rfl rfl rfl (by decide +kernel)) (pi_listK (K := K) rfl (pv 2)) (blkOk_by (N := N_Step_grouped) (sc := defScope s_Step_grouped) (by decide +kernel)) (fun _ _ _ _ _ => (pg_tupK (K := K) (n := 2) rfl rfl (pgs_cons (pg_name (i := 6) sc_Step_grouped.nd rfl (Or.inl rfl)) (pgs_cons (pg_name (i := 7) sc_Step_grouped.nd rfl (Or.inl rfl)) pgs_nil)))) (fun _ _ _ _ _ => pts_nil) (fun _ _ _ _ _ => (pv 6)))
    (pss_one (ps_ret (pe_mkp kp_Step_named_sums hr (by first | decide | omega) rfl (pa_cons pe_str (pa_cons (pe_tup (pa_cons (pv 0) pa_nil)) (pa_cons (pe_op op_cat (pe_callTy call_list_of (by rfl) (z_list T) boot_list (pa_cons (pv 1) pa_nil)) (pv 4)) (pa_cons (pv 4) (pa_cons (pv 3) pa_nil))))) (pk_cons (pv 1) (pk_cons (pv 2) pk_nil)))))))), ?_⟩
    refine ⟨_, rfl, _, rfl, _, rfl, G, a, c, l, st, ins, ul, xs, us, rfl, hG, ha, hc, hl, hp, ok, fun H1 s1 => ?_⟩
    have hc1 := sqT_same hc s1.all
    have hl1 := s1.all _ _ hl
    have hp1 := hp.same s1.all
    -- the depths
    refine ⟨_, rfl, c, rfl, ⟨_, hc1⟩, fun D hD => ?_⟩
    have gD := s1.gh.free hD
    have hD0 := s1.free hD
    refine dc_tup (K := K) (a := c) (xs := sV xs) (fun i H' => Step none G H G H' ∧ Same H1 H' ∧ H' D = some (.dK (dV (dsOf st (xs.take i))))) ⟨s1.loc hD0 gD, Same.new (Same.refl H1) hD, upd_same⟩ ?_ ?_ ?_
    · rintro i H' _ ⟨s', k', _⟩
      exact sqT_same hc1 k'
    · rintro i x H' hx' ⟨s', k', hD'⟩
      obtain ⟨k, mk, rfl, hi⟩ := sV_at' hx'
      have hk := ok.pl k (List.mem_of_getElem? mk)
      refine ⟨rfl, ?_⟩
      unfold tYes
      have hv : some (V.int (dep st k : Nat)) = valV (dV st.ds) (Sum.inr (S k)) := (dV_get (oks.dep hk.1 hk.2).1).symm
      have hno : k ∉ (dsOf st (xs.take i)).map (·.1) := by
        rw [dsOf_keys]
        exact nodup_take ok.nd mk
      refine iteT ⟨_, rfl, _, rfl, a, CSt K, dx, _, _, rfl, s'.gh _ _ h1, C0, noat_Step_depths T, h2.d, _, rfl, d, _, rfl, .inl ⟨dV st.ds, Sum.inr (S k), .inl (s'.gh _ _ h6), rfl, hv⟩, _, Sum.inr (S k), rfl, hD', ?_, s'.loc hD0 gD, Same.off k' hD, ?_⟩
      · rw [dV_len, List.length_map, List.length_take]
        omega
      · rw [upd_same, dV_put hno, dsOf_app, List.take_succ, mk]
        rfl
    rintro H2 ⟨s2, k2, hD2⟩
    rw [hx, List.take_length] at hD2
    have hc2 := sqT_same hc1 k2
    have hl2 := k2 _ _ hl1
    have hp2 := hp1.same k2
    -- the names
    refine ⟨_, rfl, l, rfl, ⟨_, SqL.of hl2⟩, fun D2 hD2' => ?_⟩
    have gD2 := s2.gh.free hD2'
    have hD20 := s2.free hD2'
    refine lc_list (K := K) (a := l) (xs := ul) (fun i H' => Step none G H G H' ∧ Same H2 H' ∧ H' D2 = some (.lst (sV ((us.take i).map (·.1))))) ⟨s2.loc hD20 gD2, Same.new (Same.refl H2) hD2', upd_same⟩ ?_ ?_ ?_
    · rintro i H' _ ⟨s', k', _⟩
      exact SqL.of (k' _ _ hl2)
    · rintro i x H' hx' ⟨s', k', hL⟩
      obtain ⟨u, hu', p, mv, rfl, hpq, hmv⟩ := (hp2.same k').get hx'
      have hi := (List.getElem?_eq_some_iff.mp hu').1
      refine ⟨p, _, rfl, hpq, rfl, _, _, rfl, _, _, rfl, rfl, rfl, ?_⟩
      unfold tYes
      refine iteT ⟨_, rfl, _, hL, by rw [sV_len, List.length_map, List.length_take]; omega, s'.loc hD20 gD2, Same.off k' hD2', ?_⟩
      rw [upd_same, List.take_succ, hu', List.map_append, ← sV_app]
      rfl
    rintro H3 ⟨s3, k3, hD3⟩
    rw [hul, List.take_length] at hD3
    have hc3 := sqT_same hc2 k3
    have hl3 := k3 _ _ hl2
    have hd3 := k3 _ _ hD2
    refine ⟨_, rfl, by show 1 ≤ sizeLine; decide, fun t ht => ?_⟩
    have s4 : Step none G H (upd G t (.tup [.ref a])) (upd H3 t (.tup [.ref a])) := s3.new_ ht
    have k4 : Same H3 (upd H3 t (.tup [.ref a])) := Same.new (Same.refl H3) ht
    have gt : upd G t (.tup [.ref a]) t = some (.tup [.ref a]) := upd_same
    generalize upd G t (.tup [.ref a]) = G4 at *
    generalize upd H3 t (.tup [.ref a]) = H4 at *
    refine ⟨_, rfl, c, _, rfl, .inr (sqT_same hc3 k4), fun e he => ?_⟩
    have s5 := s4.loc (o := .lst (sV xs)) (s4.free he) (s4.gh.free he)
    have k5 : Same H4 (upd H4 e (.lst (sV xs))) := Same.new (Same.refl H4) he
    have he5 : upd H4 e (.lst (sV xs)) e = some (.lst (sV xs)) := upd_same
    generalize upd H4 e (.lst (sV xs)) = H5 at *
    have k35 := k4.trans k5
    refine ⟨_, rfl, e, D2, _, _, rfl, rfl, he5, k35 _ _ hD3, by rw [sV_len, sV_len, List.length_map]; omega, fun b hb => ?_⟩
    rw [sV_app]
    have s6 := s5.loc (o := .lst (sV (xs ++ us.map (·.1)))) (s5.free hb) (s5.gh.free hb)
    have k6 : Same H5 (upd H5 b (.lst (sV (xs ++ us.map (·.1))))) := Same.new (Same.refl H5) hb
    have hb6 : upd H5 b (.lst (sV (xs ++ us.map (·.1)))) b = some (.lst (sV (xs ++ us.map (·.1)))) := upd_same
    generalize upd H5 b (.lst (sV (xs ++ us.map (·.1)))) = H6 at *
    have k36 := k35.trans k6
    refine ⟨_, rfl, _, rfl, _, rfl, _, rfl, rfl, rfl, fun x dx' hx0 hdx ne => ?_⟩
    have D0 := dfl_ T H6
    exact mkS (st := grSt st xs us) s6.gh gt (.inl (SqL.of hb6)) (SqL.of (k36 _ _ hD3)) (k36 _ _ hd3) (by rw [dsOf_keys]; exact ok.nd) (by rw [List.length_map]; omega) (.inr (sqT_same hc3 k36)) D0.p (.inl (SqL.of (k36 _ _ hl3))) (fun G' H' s9 at1 hx1 => q G' H' x (s6.trans s9) at1 (s6.free hx1)) hx0 hdx ne
  exact ⟨_, fd, _, _, cls_Step_ T, meth_Step_grouped T, RO, RB, .nil⟩
abbrev N_Step_group_by : List Str := ["self", "keys", "measures"]
theorem sc_Step_group_by : FnScope N_Step_group_by ["self", "keys", "measures"] (defScope s_Step_group_by) := ⟨rfl, rfl, rfl, by decide +kernel, rfl, by decide +kernel, by decide +kernel⟩
theorem wk_group_by_ (T : Tx K mg) : Dm.MetW P w K mg base 5 (CSt K) "group_by" (spMGroupBy K (CSt K)) [] := by
  obtain ⟨fd, F⟩ := f_Step_group_by T
  have t_grouped := t_grouped (P := P) (w := w) (base := base) T
  obtain ⟨oc, od, dV', kV', doc, pm, an, cdv, ct, osl, rfl, lk, hcd, hD, _⟩ := F.ex
  obtain ⟨_, rfl⟩ | ⟨hne, _⟩ := hD
  rotate_left
  · exact absurd rfl hne
  refine ⟨_, cls_Step_ T, meth_Step_group_by T, Dm.fn_kw (p0 := "self") (pv := "keys") (pd := "measures") (N := N_Step_group_by) lk hcd sc_Step_group_by StX.cxUp_none (by decide +kernel) (by decide) (fun u us ws hl => match us, ws, hl with | [], [], _ => rfl | _ :: _, [], _ => rfl) (fun A outer s H vs Q E hr h => ?_)⟩
  obtain ⟨G, a, c, d, st, ins, kvs, xs, us, rfl, hG, ha, oks, hc, hd, hp, ok, q⟩ := h
  obtain ⟨dx, fs, h1, hno⟩ := ha.obj
  suffices hh : ∃ t, PSs (cxOf C8.CX0 P w K mg base N_Step_group_by d_Step_group_by.2.qual d_Step_group_by.2.scope (d_Step_group_by.1 K) cdv A outer s H E).nox d_Step_group_by.2.body t ∧ t { nx := fun _ H' => Q .non H', rt := Q } (start N_Step_group_by [.ref a, .ref c, .ref d]) H from
    let ⟨t, x1, x2⟩ := hh
    ⟨t, x1.nox, x2⟩
  refine ⟨_, (pss_one (ps_ret (C8.pe_mt t_grouped hr (by first | decide | omega) (pv 0) (pa_cons (pv 1) (pa_cons (LiI.pe_listItems rfl (pv 2) (by rfl) (z_list T) boot_list) pa_nil))))), ?_⟩
  refine ⟨_, rfl, a, dx, fs, rfl, hG _ _ h1, hno _ (by decide +kernel), _, rfl, _, rfl, d, kvs, rfl, hd, fun H1 p ts k1 hpn htn hpt hp1 hts => ?_⟩
  have k1 : Same H H1 := k1
  have s1 : Step none G H G H1 := ⟨Same.refl G, fun b o e => k1 _ _ (hG _ _ e), fun b hb => .inl hb, fun b o e _ => k1 _ _ e, fun b e => by cases e⟩
  have hpr : PairsAt K H1 (ts.map V.ref) us := paired_map (paired_two (fun t q u e1 e2 => by
    obtain ⟨e3, e4⟩ := e2
    rw [e3] at e1
    exact ⟨t, q.2, rfl, SqT.of e1, e4.same k1⟩) hts hp)
  exact ⟨G, a, c, p, st, ins, ts.map V.ref, xs, us, rfl, s1.gh, ha, oks, sqT_same hc k1, hp1, hpr, ok, fun G' H' x s2 at' hx => q G' H' x (s1.trans s2) at' (s1.free hx)⟩
theorem wk_group_by_n (T : Tx K mg) : Dm.MetW P w K mg base 5 (CSt K) "group_by" (spMGroupBy K (CSt K)) ["n"] := by
  obtain ⟨fd, F⟩ := f_Step_group_by T
  have t_grouped := t_grouped (P := P) (w := w) (base := base) T
  obtain ⟨oc, od, dV', kV', doc, pm, an, cdv, ct, osl, rfl, lk, hcd, hD, _⟩ := F.ex
  obtain ⟨_, rfl⟩ | ⟨hne, _⟩ := hD
  rotate_left
  · exact absurd rfl hne
  refine ⟨_, cls_Step_ T, meth_Step_group_by T, Dm.fn_kw (p0 := "self") (pv := "keys") (pd := "measures") (N := N_Step_group_by) lk hcd sc_Step_group_by StX.cxUp_none (by decide +kernel) (by decide) (fun u us ws hl => match us, ws, hl with | [], [_], _ => rfl | _ :: _, [_], _ => rfl) (fun A outer s H vs Q E hr h => ?_)⟩
  obtain ⟨G, a, c, d, st, ins, kvs, xs, us, rfl, hG, ha, oks, hc, hd, hp, ok, q⟩ := h
  obtain ⟨dx, fs, h1, hno⟩ := ha.obj
  suffices hh : ∃ t, PSs (cxOf C8.CX0 P w K mg base N_Step_group_by d_Step_group_by.2.qual d_Step_group_by.2.scope (d_Step_group_by.1 K) cdv A outer s H E).nox d_Step_group_by.2.body t ∧ t { nx := fun _ H' => Q .non H', rt := Q } (start N_Step_group_by [.ref a, .ref c, .ref d]) H from
    let ⟨t, x1, x2⟩ := hh
    ⟨t, x1.nox, x2⟩
  refine ⟨_, (pss_one (ps_ret (C8.pe_mt t_grouped hr (by first | decide | omega) (pv 0) (pa_cons (pv 1) (pa_cons (LiI.pe_listItems rfl (pv 2) (by rfl) (z_list T) boot_list) pa_nil))))), ?_⟩
  refine ⟨_, rfl, a, dx, fs, rfl, hG _ _ h1, hno _ (by decide +kernel), _, rfl, _, rfl, d, kvs, rfl, hd, fun H1 p ts k1 hpn htn hpt hp1 hts => ?_⟩
  have k1 : Same H H1 := k1
  have s1 : Step none G H G H1 := ⟨Same.refl G, fun b o e => k1 _ _ (hG _ _ e), fun b hb => .inl hb, fun b o e _ => k1 _ _ e, fun b e => by cases e⟩
  have hpr : PairsAt K H1 (ts.map V.ref) us := paired_map (paired_two (fun t q u e1 e2 => by
    obtain ⟨e3, e4⟩ := e2
    rw [e3] at e1
    exact ⟨t, q.2, rfl, SqT.of e1, e4.same k1⟩) hts hp)
  exact ⟨G, a, c, p, st, ins, ts.map V.ref, xs, us, rfl, s1.gh, ha, oks, sqT_same hc k1, hp1, hpr, ok, fun G' H' x s2 at' hx => q G' H' x (s1.trans s2) at' (s1.free hx)⟩
theorem wk_group_by_s (T : Tx K mg) : Dm.MetW P w K mg base 5 (CSt K) "group_by" (spMGroupBy K (CSt K)) ["s"] := by
  obtain ⟨fd, F⟩ := f_Step_group_by T
  have t_grouped := t_grouped (P := P) (w := w) (base := base) T
  obtain ⟨oc, od, dV', kV', doc, pm, an, cdv, ct, osl, rfl, lk, hcd, hD, _⟩ := F.ex
  obtain ⟨_, rfl⟩ | ⟨hne, _⟩ := hD
  rotate_left
  · exact absurd rfl hne
  refine ⟨_, cls_Step_ T, meth_Step_group_by T, Dm.fn_kw (p0 := "self") (pv := "keys") (pd := "measures") (N := N_Step_group_by) lk hcd sc_Step_group_by StX.cxUp_none (by decide +kernel) (by decide) (fun u us ws hl => match us, ws, hl with | [], [_], _ => rfl | _ :: _, [_], _ => rfl) (fun A outer s H vs Q E hr h => ?_)⟩
  obtain ⟨G, a, c, d, st, ins, kvs, xs, us, rfl, hG, ha, oks, hc, hd, hp, ok, q⟩ := h
  obtain ⟨dx, fs, h1, hno⟩ := ha.obj
  suffices hh : ∃ t, PSs (cxOf C8.CX0 P w K mg base N_Step_group_by d_Step_group_by.2.qual d_Step_group_by.2.scope (d_Step_group_by.1 K) cdv A outer s H E).nox d_Step_group_by.2.body t ∧ t { nx := fun _ H' => Q .non H', rt := Q } (start N_Step_group_by [.ref a, .ref c, .ref d]) H from
    let ⟨t, x1, x2⟩ := hh
    ⟨t, x1.nox, x2⟩
  refine ⟨_, (pss_one (ps_ret (C8.pe_mt t_grouped hr (by first | decide | omega) (pv 0) (pa_cons (pv 1) (pa_cons (LiI.pe_listItems rfl (pv 2) (by rfl) (z_list T) boot_list) pa_nil))))), ?_⟩
  refine ⟨_, rfl, a, dx, fs, rfl, hG _ _ h1, hno _ (by decide +kernel), _, rfl, _, rfl, d, kvs, rfl, hd, fun H1 p ts k1 hpn htn hpt hp1 hts => ?_⟩
  have k1 : Same H H1 := k1
  have s1 : Step none G H G H1 := ⟨Same.refl G, fun b o e => k1 _ _ (hG _ _ e), fun b hb => .inl hb, fun b o e _ => k1 _ _ e, fun b e => by cases e⟩
  have hpr : PairsAt K H1 (ts.map V.ref) us := paired_map (paired_two (fun t q u e1 e2 => by
    obtain ⟨e3, e4⟩ := e2
    rw [e3] at e1
    exact ⟨t, q.2, rfl, SqT.of e1, e4.same k1⟩) hts hp)
  exact ⟨G, a, c, p, st, ins, ts.map V.ref, xs, us, rfl, s1.gh, ha, oks, sqT_same hc k1, hp1, hpr, ok, fun G' H' x s2 at' hx => q G' H' x (s1.trans s2) at' (s1.free hx)⟩
theorem wk_group_by_s_n (T : Tx K mg) : Dm.MetW P w K mg base 5 (CSt K) "group_by" (spMGroupBy K (CSt K)) ["s", "n"] := by
  obtain ⟨fd, F⟩ := f_Step_group_by T
  have t_grouped := t_grouped (P := P) (w := w) (base := base) T
  obtain ⟨oc, od, dV', kV', doc, pm, an, cdv, ct, osl, rfl, lk, hcd, hD, _⟩ := F.ex
  obtain ⟨_, rfl⟩ | ⟨hne, _⟩ := hD
  rotate_left
  · exact absurd rfl hne
  refine ⟨_, cls_Step_ T, meth_Step_group_by T, Dm.fn_kw (p0 := "self") (pv := "keys") (pd := "measures") (N := N_Step_group_by) lk hcd sc_Step_group_by StX.cxUp_none (by decide +kernel) (by decide) (fun u us ws hl => match us, ws, hl with | [], [_, _], _ => rfl | _ :: _, [_, _], _ => rfl) (fun A outer s H vs Q E hr h => ?_)⟩
  obtain ⟨G, a, c, d, st, ins, kvs, xs, us, rfl, hG, ha, oks, hc, hd, hp, ok, q⟩ := h
  obtain ⟨dx, fs, h1, hno⟩ := ha.obj
  suffices hh : ∃ t, PSs (cxOf C8.CX0 P w K mg base N_Step_group_by d_Step_group_by.2.qual d_Step_group_by.2.scope (d_Step_group_by.1 K) cdv A outer s H E).nox d_Step_group_by.2.body t ∧ t { nx := fun _ H' => Q .non H', rt := Q } (start N_Step_group_by [.ref a, .ref c, .ref d]) H from
    let ⟨t, x1, x2⟩ := hh
    ⟨t, x1.nox, x2⟩
  refine ⟨_, (pss_one (ps_ret (C8.pe_mt t_grouped hr (by first | decide | omega) (pv 0) (pa_cons (pv 1) (pa_cons (LiI.pe_listItems rfl (pv 2) (by rfl) (z_list T) boot_list) pa_nil))))), ?_⟩
  refine ⟨_, rfl, a, dx, fs, rfl, hG _ _ h1, hno _ (by decide +kernel), _, rfl, _, rfl, d, kvs, rfl, hd, fun H1 p ts k1 hpn htn hpt hp1 hts => ?_⟩
  have k1 : Same H H1 := k1
  have s1 : Step none G H G H1 := ⟨Same.refl G, fun b o e => k1 _ _ (hG _ _ e), fun b hb => .inl hb, fun b o e _ => k1 _ _ e, fun b e => by cases e⟩
  have hpr : PairsAt K H1 (ts.map V.ref) us := paired_map (paired_two (fun t q u e1 e2 => by
    obtain ⟨e3, e4⟩ := e2
    rw [e3] at e1
    exact ⟨t, q.2, rfl, SqT.of e1, e4.same k1⟩) hts hp)
  exact ⟨G, a, c, p, st, ins, ts.map V.ref, xs, us, rfl, s1.gh, ha, oks, sqT_same hc k1, hp1, hpr, ok, fun G' H' x s2 at' hx => q G' H' x (s1.trans s2) at' (s1.free hx)⟩
abbrev N_scan : List Str := ["table", "depths", "column"]
theorem sc_scan : FnScope N_scan ["table"] (defScope s_scan) := ⟨rfl, rfl, rfl, by decide +kernel, rfl, by decide +kernel, by decide +kernel⟩
theorem c_scan (T : Tx K mg) : C8.Cal P w K mg base 3 "scan" (spScan K (CTb K) (CSt K)) [] := by
  obtain ⟨fd, F⟩ := f_scan T
  have kp_Step_table := kp_Step_table (P := P) (w := w) (base := base) T
  refine mkCal F (g_scan T) (F.bindsN fun _ _ _ _ _ _ us hl => match us, hl with | [_], _ => rfl) .nil sc_scan (fun vs H Q E h => ?_) (fun cdv A outer s H vs Q E hr h => ?_)
  · obtain ⟨G, a, b, rfl, _⟩ := h
    rfl
  obtain ⟨G, a, b, rfl, hG, ha, ok, q⟩ := h
  obtain ⟨dx, c, k, l0, h1, h2⟩ := ha.ex
  have hf := tf_fl (n := b.n) (c := c) (k := k) (l := l0) (t := txtB b)
  have C0 := cls_Table_ T
  have sl : sizeLine = 16777216 := rfl
  have hi := ok.c.hi
  have hx := sV_len b.cs
  let zd : List (List Nat) → List (List Nat × Nat) := fun xs => xs.map fun c => (c, 0)
  have zk : ∀ xs, (zd xs).map (·.1) = xs := fun xs => by
    show (xs.map fun c => (c, 0)).map (·.1) = xs
    rw [List.map_map]
    exact List.map_id _
  refine ⟨_, (pss_cons (Dm.ps_setDc (i := 1) (own := [("column", 2)]) rfl sc_scan.nd rfl rfl (Dm.sw_dict rfl rfl rfl (by decide +kernel)) (pi_listK (K := K) rfl (pe_fldK (K := K) rfl (pv 0) (by rfl))) (blkOk_by (N := N_scan) (sc := defScope s_scan) (by decide +kernel)) (fun _ _ _ _ _ => (pg_name (i := 2) sc_scan.nd rfl (Or.inl rfl))) (fun _ _ _ _ _ => pts_nil) (fun _ _ _ _ _ => (pv 2)) (fun _ _ _ _ _ => pe_int))
    (pss_one (ps_ret (pe_mkp kp_Step_table hr (by first | decide | omega) rfl (pa_cons pe_str (pa_cons (pe_tup pa_nil) (pa_cons (pe_fldK (K := K) rfl (pv 0) (by rfl)) (pa_cons (pe_lst pa_nil) (pa_cons (pv 1) pa_nil))))) (pk_cons (pv 0) pk_nil))))), ?_⟩
  have hc0 : SqL K H c (sV b.cs) := SqL.of (hG _ _ h2.c)
  refine ⟨_, rfl, a, CTb K, dx, _, _, rfl, hG _ _ h1, C0, noat_Table_columns T, hf.c, c, rfl, ⟨_, hc0⟩, fun D hD => ?_⟩
  have gD := hG.free hD
  refine Dm.dc_list (K := K) (a := c) (xs := sV b.cs) (fun i H' => Step none G H G H' ∧ H' D = some (.dK (dV (zd (b.cs.take i))))) ⟨(Step.refl hG).loc hD gD, upd_same⟩ ?_ ?_ ?_
  · rintro i H' _ ⟨s', _⟩
    exact sqL_same hc0 s'.all
  · rintro i x H' hx' ⟨s', hD'⟩
    obtain ⟨k', mk, rfl, hi'⟩ := sV_at' hx'
    refine ⟨rfl, ?_⟩
    unfold tYes
    have hno : k' ∉ (zd (b.cs.take i)).map (·.1) := by
      rw [zk]
      exact nodup_take ok.c.nd mk
    refine iteT ⟨_, rfl, _, Sum.inr (S k'), rfl, hD', ?_, s'.loc hD gD, ?_⟩
    · rw [dV_len, List.length_map, List.length_take]
      omega
    · have e := dV_put (n := 0) hno
      rw [upd_same]
      show some (HO.dK (putK (dV (zd (b.cs.take i))) (Sum.inr (S k')) (.int ((0 : Nat) : Int)))) = _
      rw [e, List.take_succ, mk]
      show _ = some (HO.dK (dV ((b.cs.take i ++ [k']).map fun c => (c, 0))))
      rw [List.map_append]
      rfl
  rintro H2 ⟨s2, hD2⟩
  rw [hx, List.take_length] at hD2
  refine ⟨by show 0 ≤ sizeLine; decide, fun t ht => ?_⟩
  have s4 : Step none G H (upd G t (.tup [])) (upd H2 t (.tup [])) := s2.new_ ht
  have k4 : Same H2 (upd H2 t (.tup [])) := Same.new (Same.refl H2) ht
  have gt : upd G t (.tup []) t = some (.tup []) := upd_same
  generalize upd G t (.tup []) = G4 at *
  generalize upd H2 t (.tup []) = H4 at *
  refine ⟨_, rfl, a, CTb K, dx, _, _, rfl, s4.same _ _ (hG _ _ h1), C0, noat_Table_columns T, hf.c, by show 0 ≤ sizeLine; decide, fun e he => ?_⟩
  have s5 := s4.loc (o := .lst []) (s4.free he) (s4.gh.free he)
  have k5 : Same H4 (upd H4 e (.lst [])) := Same.new (Same.refl H4) he
  have he5 : upd H4 e (.lst []) e = some (.lst []) := upd_same
  generalize upd H4 e (.lst []) = H5 at *
  refine ⟨_, rfl, _, rfl, rfl, rfl, fun x dx' hx0 hdx ne => ?_⟩
  have D0 := dfl_ T H5
  exact mkS (st := ⟨kScan, b.cs, [], zd b.cs⟩) s5.gh gt (.inl (sqL_same hc0 s5.all)) (SqL.of he5) (k5 _ _ (k4 _ _ hD2)) (by rw [zk]; exact ok.c.nd) (by rw [List.length_map]; omega) D0.n D0.p D0.s (fun G' H' s9 at1 hx1 => q G' H' x (s5.trans s9) at1 (s5.free hx1)) hx0 hdx ne
end Pf
namespace Bs
open PySem PySem.Spec PyProof.Rows L2 SX
variable {P : Program} {w : World} {K : PySem.W.Frag} {mg : Str → Option Value} {base : Heap}
/-- pairs of texts, each where it stands -/
abbrev Pr := Addr × (List Nat × List Nat)
structure PsAt (K : PySem.W.Frag) (H : Hp) (l : Addr) (ps : List Pr) : Prop where
  l : H l = some (.lst (ps.map fun q => V.ref q.1))
  t : ∀ q ∈ ps, SqT K H q.1 [.str (S q.2.1), .str (S q.2.2)]
theorem PsAt.same {G H : Hp} {l : Addr} {ps : List Pr} (h : PsAt K G l ps) (s : Same G H) : PsAt K H l ps := ⟨s _ _ h.l, fun q hq => sqT_same (h.t q hq) s⟩
theorem PsAt.at_ {H : Hp} {l : Addr} {ps : List Pr} (h : PsAt K H l ps) {i : Nat} {v : V} (e : (ps.map fun q => V.ref q.1)[i]? = some v) : ∃ q, ps[i]? = some q ∧ v = .ref q.1 ∧ SqT K H q.1 [.str (S q.2.1), .str (S q.2.2)] ∧ i < ps.length := by
  rw [List.getElem?_map] at e
  cases hq : ps[i]? with
  | none => rw [hq] at e; cases e
  | some q =>
    rw [hq] at e
    exact ⟨q, rfl, (Option.some.inj e).symm, h.t q (List.mem_of_getElem? hq), (List.getElem?_eq_some_iff.mp hq).1⟩
/-- the pairs fit two steps -/
structure PrOk (st st2 : Stp) (ps : List Pr) : Prop where
  a : Pl st (ps.map (·.2.1))
  b : Pl st2 (ps.map (·.2.2))
  nd : (ps.map (·.2)).Nodup
  l1 : 1 ≤ ps.length
  l3 : ps.length ≤ 3
theorem PrOk.of {st st2 : Stp} {ps qs : List Pr} (h : PrOk st st2 ps) (e : qs.map (·.2) = ps.map (·.2)) : PrOk st st2 qs := by
  have l : qs.length = ps.length := by
    have := congrArg List.length e
    rw [List.length_map, List.length_map] at this
    exact this
  have e1 : qs.map (·.2.1) = ps.map (·.2.1) := by
    have := congrArg (List.map Prod.fst) e
    rw [List.map_map, List.map_map] at this
    exact this
  have e2 : qs.map (·.2.2) = ps.map (·.2.2) := by
    have := congrArg (List.map Prod.snd) e
    rw [List.map_map, List.map_map] at this
    exact this
  exact ⟨by rw [e1]; exact h.a, by rw [e2]; exact h.b, by rw [e]; exact h.nd, by rw [l]; exact h.l1, by rw [l]; exact h.l3⟩
theorem inj_nodup' {α β : Type} {f : α → β} (hf : ∀ a b, f a = f b → a = b) : ∀ {xs : List α}, xs.Nodup → (xs.map f).Nodup
  | [], _ => List.nodup_nil
  | x :: r, h => by
    obtain ⟨h1, h2⟩ := List.nodup_cons.mp h
    refine List.nodup_cons.mpr ⟨fun z => ?_, inj_nodup' hf h2⟩
    obtain ⟨y, hy, e⟩ := List.mem_map.mp z
    exact h1 (hf _ _ e ▸ hy)
theorem lt3 {A : Around} {k : Nat} (hr : Room k A) : A.units + 3 < cLine := by have := hr.un; omega
theorem sqT_off {H : Hp} {a D : Addr} {xs : List V} {o : HO} (h : SqT K H a xs) (ne : a ≠ D) : SqT K (upd H D o) a xs := by
  rcases h with (h | ⟨u, h⟩) | h
  · exact .inl (.inl (by rw [upd_ne ne]; exact h))
  · exact .inl (.inr ⟨u, by rw [upd_ne ne]; exact h⟩)
  · exact .inr h
def spTuples (K : PySem.W.Frag) : Sp := fun vs H Q _ => ∃ (G : Hp) (l : Addr) (ps : List Pr), vs = [.ref l] ∧ Same G H ∧ PsAt K H l ps ∧ ps.length ≤ 100 ∧ ∀ (H' : Hp) (l' : Addr) (qs : List Pr), Step none G H G H' → PsAt K H' l' qs → qs.map (·.2) = ps.map (·.2) → Q (.ref l') H'
def spTwiceP (K : PySem.W.Frag) : Sp := fun vs H Q _ => ∃ (l : Addr) (ps : List Pr), vs = [.ref l] ∧ PsAt K H l ps ∧ (ps.map (·.2)).Nodup ∧ ps.length ≤ 4 ∧ Q (.bl false) H
def spCPairs (K : PySem.W.Frag) (C : Addr) : Sp := fun vs H Q _ => ∃ (G : Hp) (a b l : Addr) (st st2 : Stp) (ins ins2 : List V) (ps : List Pr), vs = [.ref a, .ref b, .ref l] ∧ Same G H ∧ StAt K C G a st ins ∧ StAt K C G b st2 ins2 ∧ PsAt K H l ps ∧ PrOk st st2 ps ∧ ∀ H' : Hp, Step none G H G H' → Q .non H'
def spCJoin (K : PySem.W.Frag) (C : Addr) : Sp := fun vs H Q _ => ∃ (G : Hp) (a b l : Addr) (st st2 : Stp) (ins ins2 : List V) (ps : List Pr), vs = [.ref a, .ref b, .ref l] ∧ Same G H ∧ StAt K C G a st ins ∧ StAt K C G b st2 ins2 ∧ st.cs.length ≤ 60 ∧ (∀ c ∈ st.cs, c ∉ st2.cs) ∧ PsAt K H l ps ∧ PrOk st st2 ps ∧ ∀ H' : Hp, Step none G H G H' → Q .non H'
def spCUnion (K : PySem.W.Frag) (C : Addr) : Sp := fun vs H Q _ => ∃ (G : Hp) (a b : Addr) (st st2 : Stp) (ins ins2 : List V), vs = [.ref a, .ref b] ∧ Same G H ∧ StAt K C G a st ins ∧ StAt K C G b st2 ins2 ∧ st.cs.length = st2.cs.length ∧ Q .non H
end Bs
namespace Pf
open PySem PySem.Spec PyProof.Rows L2 Bs SX
variable {P : Program} {w : World} {K : PySem.W.Frag} {mg : Str → Option Value} {base : Heap}
theorem c_has_twiceP (T : Tx K mg) : C8.Cal P w K mg base 1 "has_twice" (spTwiceP K) [] := by
  obtain ⟨fd, F⟩ := f_has_twice T
  refine mkCal F (g_has_twice T) (F.bindsN fun _ _ _ _ _ _ us hl => match us, hl with | [_], _ => rfl) .nil sc_has_twice (fun vs H Q E h => ?_) (fun cdv A outer s H vs Q E hr h => ?_)
  · obtain ⟨l, ps, rfl, _⟩ := h
    rfl
  obtain ⟨l, ps, rfl, hp, nd, l4, q⟩ := h
  refine ⟨_, (pss_one (ps_ret (pe_cmpR op_lt (Tt.pe_lenSetT (K := K) rfl (lt3 hr) rfl (by rfl) (z_len T) (by rfl) (z_set T) (pv 0)) (pe_callB (call_len_seqK (K := K) rfl) (by rfl) (z_len T) boot_len (pa_cons (pv 0) pa_nil)) (nomark _)))), ?_⟩
  have inj : ∀ a b : List Nat × List Nat, [S a.1, S a.2] = [S b.1, S b.2] → a = b := fun a b e => by
    injection e with e1 e2
    injection e2 with e2 _
    exact Prod.ext (S_inj e1) (S_inj e2)
  refine ⟨_, rfl, l, ps.map fun q => (q.1, [S q.2.1, S q.2.2]), rfl, SqL.of ?_, fun e he => ?_, ?_, by rw [List.length_map]; exact l4, ?_⟩
  · rw [List.map_map]; exact hp.l
  · obtain ⟨q, hq, rfl⟩ := List.mem_map.mp he
    exact hp.t q hq
  · rw [List.map_map]
    have h := inj_nodup' (f := fun z : List Nat × List Nat => [S z.1, S z.2]) inj nd
    rw [List.map_map] at h
    exact h
  refine ⟨_, rfl, l, _, rfl, .inl (SqL.of hp.l), _, _, rfl, rfl, ?_⟩
  rw [List.length_map, List.length_map]
  show Q (.bl (decide ((ps.length : Int) < (ps.length : Int)))) H
  rw [decide_eq_false (by omega)]
  exact q
abbrev N_tuples : List Str := ["on", "left", "right"]
theorem sc_tuples : FnScope N_tuples ["on"] (defScope s_tuples) := ⟨rfl, rfl, rfl, by decide +kernel, rfl, by decide +kernel, by decide +kernel⟩
theorem c_tuples (T : Tx K mg) : C8.Cal P w K mg base 1 "_tuples" (spTuples K) [] := by
  obtain ⟨fd, F⟩ := f_tuples T
  refine mkCal F (g_tuples T) (F.bindsN fun _ _ _ _ _ _ us hl => match us, hl with | [_], _ => rfl) .nil sc_tuples (fun vs H Q E h => ?_) (fun cdv A outer s H vs Q E hr h => ?_)
  · obtain ⟨G, l, ps, rfl, _⟩ := h
    rfl
  obtain ⟨G, l, ps, rfl, hG, hp, l1, q⟩ := h
  have sl : sizeLine = 16777216 := rfl
  refine ⟨_, (pss_one (ps_ret (pe_lc (own := [("left", 1), ("right", 2)]) rfl sc_tuples.nd (pi_listK (K := K) rfl (pv 0)) (blkOk_by (N := N_tuples) (sc := defScope s_tuples) (by decide +kernel)) (fun _ _ _ _ _ => (pg_tupK (K := K) (n := 2) rfl rfl (pgs_cons (pg_name (i := 1) sc_tuples.nd rfl (Or.inl rfl)) (pgs_cons (pg_name (i := 2) sc_tuples.nd rfl (Or.inl rfl)) pgs_nil)))) (fun _ _ _ _ _ => pts_nil) (fun _ _ _ _ _ => (pe_tup (pa_cons (pv 1) (pa_cons (pv 2) pa_nil))))))), ?_⟩
  refine ⟨_, rfl, l, rfl, ⟨_, SqL.of hp.l⟩, fun D hD => ?_⟩
  have gD := hG.free hD
  refine lc_list (K := K) (a := l) (xs := ps.map fun q => V.ref q.1) (fun i H' => ∃ qs : List Pr, Step none G H G H' ∧ H' D = some (.lst (qs.map fun q => V.ref q.1)) ∧ (∀ q ∈ qs, SqT K H' q.1 [.str (S q.2.1), .str (S q.2.2)] ∧ q.1 ≠ D) ∧ qs.map (·.2) = (ps.take i).map (·.2)) ⟨[], (Step.refl hG).loc hD gD, upd_same, fun q hq => (by cases hq), rfl⟩ ?_ ?_ ?_
  · rintro i H' _ ⟨qs, s', _⟩
    exact SqL.of (s'.all _ _ hp.l)
  · rintro i x H' hx ⟨qs, s', hL, ht, e⟩
    obtain ⟨u, hu, rfl, hs, hi⟩ := (hp.same s'.all).at_ hx
    refine ⟨u.1, _, rfl, hs, rfl, _, _, rfl, _, _, rfl, rfl, rfl, ?_⟩
    unfold tYes
    have ql : qs.length = i := by
      have := congrArg List.length e
      rw [List.length_map, List.length_map, List.length_take] at this
      omega
    refine iteT ⟨_, rfl, _, rfl, by show 2 ≤ sizeLine; decide, fun t ht' => ?_⟩
    have hL' : upd H' t (.tup [.str (S u.2.1), .str (S u.2.2)]) D = some (.lst (qs.map fun q => V.ref q.1)) := by rw [upd_ne (ne_of_none hL ht')]; exact hL
    have ntD : t ≠ D := fun z => by rw [z, hL] at ht'; cases ht'
    have s2 := s'.loc (o := .tup [.str (S u.2.1), .str (S u.2.2)]) (s'.free ht') (s'.gh.free ht')
    refine ⟨_, hL', by rw [List.length_map]; omega, qs ++ [(t, u.2)], s2.loc hD gD, ?_, fun q hq => ?_, ?_⟩
    · rw [upd_same, List.map_append]; rfl
    · rcases List.mem_append.mp hq with hq | hq
      · have h := ht q hq
        refine ⟨?_, h.2⟩
        have h1 : SqT K (upd H' t (.tup [.str (S u.2.1), .str (S u.2.2)])) q.1 [.str (S q.2.1), .str (S q.2.2)] := sqT_same h.1 (Same.new (Same.refl H') ht')
        exact sqT_off h1 h.2
      · rw [List.mem_singleton.mp hq]
        exact ⟨SqT.of (by rw [upd_ne ntD, upd_same]), ntD⟩
    · rw [List.map_append, e, List.take_succ, hu, List.map_append]
      rfl
  rintro H' ⟨qs, s', hL, ht, e⟩
  rw [List.length_map, List.take_length] at e
  exact q H' D qs s' ⟨hL, fun q hq => (ht q hq).1⟩ e
end Pf
namespace Bs
open PySem PySem.Spec PyProof.Rows L2 SX
variable {P : Program} {w : World} {K : PySem.W.Frag} {mg : Str → Option Value} {base : Heap}
abbrev kJoin : List Nat := [106, 111, 105, 110]
theorem kJoin_ : ("join" : Str) = S kJoin := by decide +kernel
abbrev kSemi : List Nat := [115, 101, 109, 105]
theorem kSemi_ : ("semi" : Str) = S kSemi := by decide +kernel
abbrev kAnti : List Nat := [97, 110, 116, 105]
theorem kAnti_ : ("anti" : Str) = S kAnti := by decide +kernel
abbrev kUnion : List Nat := [117, 110, 105, 111, 110]
theorem kUnion_ : ("union" : Str) = S kUnion := by decide +kernel
theorem PsAt.one {H : Hp} {l : Addr} {ps : List Pr} (h : PsAt K H l ps) : ∀ q ∈ ps, SqT K H q.1 [.str (S q.2.1), .str (S q.2.2)] := h.t
def spMSemi (K : PySem.W.Frag) (C : Addr) (kd : List Nat) : Sp := fun vs H Q _ => ∃ (G : Hp) (a b l : Addr) (st st2 : Stp) (ins ins2 : List V) (ps : List Pr), vs = [.ref a, .ref b, .ref l] ∧ Same G H ∧ StAt K C G a st ins ∧ StAt K C G b st2 ins2 ∧ DpOk st ∧ PsAt K H l ps ∧ PrOk st st2 ps ∧ MkSt K C G H { st with kd := kd } [.ref a, .ref b] Q
def spMJoin (K : PySem.W.Frag) (C : Addr) : Sp := fun vs H Q _ => ∃ (G : Hp) (a b l : Addr) (st st2 : Stp) (ins ins2 : List V) (ps : List Pr), vs = [.ref a, .ref b, .ref l] ∧ Same G H ∧ StAt K C G a st ins ∧ StAt K C G b st2 ins2 ∧ OkS st ∧ OkS st2 ∧ (∀ c ∈ st.cs, c ∉ st2.cs) ∧ PsAt K H l ps ∧ PrOk st st2 ps ∧
  MkSt K C G H ⟨kJoin, st.cs ++ st2.cs, st.ms ++ st2.ms, st.ds ++ st2.ds⟩ [.ref a, .ref b] Q
theorem merge_app (as bs : List (List Nat × Nat)) (nd : ((as ++ bs).map (·.1)).Nodup) : mergeK (dV as) (dV bs) = dV (as ++ bs) := by
  induction bs generalizing as with
  | nil => show dV as = _; rw [List.append_nil]
  | cons p r ih =>
    obtain ⟨c, n⟩ := p
    have hc : c ∉ as.map (·.1) := by
      rw [List.map_append, List.nodup_append] at nd
      exact fun z => nd.2.2 c z c (by simp) rfl
    show mergeK (putK (dV as) (Sum.inr (S c)) (.int (n : Nat))) (dV r) = _
    rw [dV_put hc, ih (as ++ [(c, n)]) (by rw [List.append_assoc]; exact nd), List.append_assoc]
    rfl
theorem nodup_join {a b : List (List Nat)} (h1 : a.Nodup) (h2 : b.Nodup) (h : ∀ c ∈ a, c ∉ b) : (a ++ b).Nodup := List.nodup_append.mpr ⟨h1, h2, fun x hx y hy e => h x hx (e ▸ hy)⟩
theorem firsts_take {ps : List Pr} {i : Nat} {u : Pr} {f : Pr → List Nat} (h : ps[i]? = some u) : sV ((ps.take i).map f) ++ [V.str (S (f u))] = sV ((ps.take (i + 1)).map f) := by
  rw [List.take_succ, h, List.map_append, ← sV_app]
  rfl
end Bs
namespace Pf
open PySem PySem.Spec PyProof.Rows L2 Bs SX
variable {P : Program} {w : World} {K : PySem.W.Frag} {mg : Str → Option Value} {base : Heap}
abbrev N_check_pairs : List Str := ["left", "right", "pairs", "ours", "theirs", "column", "_"]
theorem sc_check_pairs : FnScope N_check_pairs ["left", "right", "pairs"] (defScope s_check_pairs) := ⟨rfl, rfl, rfl, by decide +kernel, rfl, by decide +kernel, by decide +kernel⟩
theorem c_check_pairs (T : Tx K mg) : C8.Cal P w K mg base 2 "check_pairs" (spCPairs K (CSt K)) [] := by
  obtain ⟨fd, F⟩ := f_check_pairs T
  have c_refuse := c_refuse (P := P) (w := w) (base := base) T
  have c_has_strange := c_has_strange (P := P) (w := w) (base := base) T
  have c_has_measure := c_has_measure (P := P) (w := w) (base := base) T
  have c_has_twice := c_has_twiceP (P := P) (w := w) (base := base) T
  have pe_g_MOST_PAIRS : ∀ {X : Cx} {pos : Pos}, X.mg = mg → Gl X "MOST_PAIRS" → PE X (.Name "MOST_PAIRS" pos) (tC (.int 3)) := fun h1 h2 => by
    obtain ⟨t, e⟩ := ci_MOST_PAIRS T
    exact pe_glob h2 (by rw [h1]; exact e) ⟨t, rfl⟩
  refine mkCal F (g_check_pairs T) (F.bindsN fun _ _ _ _ _ _ us hl => match us, hl with | [_, _, _], _ => rfl) .nil sc_check_pairs (fun vs H Q E h => ?_) (fun cdv A outer s H vs Q E hr h => ?_)
  · obtain ⟨G, a, b, l, st, st2, ins, ins2, ps, rfl, _⟩ := h
    rfl
  obtain ⟨G, a, b, l, st, st2, ins, ins2, ps, rfl, hG, ha, hb, hp, ok, q⟩ := h
  have sl : sizeLine = 16777216 := rfl
  have p1 := ok.l1
  have p3 := ok.l3
  have pl : (ps.map fun q => V.ref q.1).length = ps.length := List.length_map _
  refine ⟨_, (pss_cons (ps_setLc (i := 3) (own := [("column", 5), ("_", 6)]) rfl sc_check_pairs.nd rfl rfl (sw_true rfl rfl rfl (by decide +kernel)) (pi_listK (K := K) rfl (pv 2)) (blkOk_by (N := N_check_pairs) (sc := defScope s_check_pairs) (by decide +kernel)) (fun _ _ _ _ _ => (pg_tupK (K := K) (n := 2) rfl rfl (pgs_cons (pg_name (i := 5) sc_check_pairs.nd rfl (Or.inl rfl)) (pgs_cons (pg_name (i := 6) sc_check_pairs.nd rfl (Or.inl rfl)) pgs_nil)))) (fun _ _ _ _ _ => pts_nil) (fun _ _ _ _ _ => (pv 5)))
    (pss_cons (ps_setLc (i := 4) (own := [("_", 6), ("column", 5)]) rfl sc_check_pairs.nd rfl rfl (sw_true rfl rfl rfl (by decide +kernel)) (pi_listK (K := K) rfl (pv 2)) (blkOk_by (N := N_check_pairs) (sc := defScope s_check_pairs) (by decide +kernel)) (fun _ _ _ _ _ => (pg_tupK (K := K) (n := 2) rfl rfl (pgs_cons (pg_name (i := 6) sc_check_pairs.nd rfl (Or.inl rfl)) (pgs_cons (pg_name (i := 5) sc_check_pairs.nd rfl (Or.inl rfl)) pgs_nil)))) (fun _ _ _ _ _ => pts_nil) (fun _ _ _ _ _ => (pv 5)))
    (pss_cons (ps_expr (C8.pe_c c_refuse hr (by first | decide | omega) rfl (pa_cons pe_str (pa_cons (pe_not (pe_chain op_le op_le pe_int (pe_callB (call_len_seqK (K := K) rfl) (by rfl) (z_len T) boot_len (pa_cons (pv 2) pa_nil)) (pe_g_MOST_PAIRS rfl rfl))) pa_nil))))
    (pss_cons (ps_expr (C8.pe_c c_refuse hr (by first | decide | omega) rfl (pa_cons pe_str (pa_cons (pe_or (C8.pe_c c_has_strange hr (by first | decide | omega) rfl (pa_cons (pv 0) (pa_cons (pv 3) pa_nil))) (pe_or (C8.pe_c c_has_strange hr (by first | decide | omega) rfl (pa_cons (pv 1) (pa_cons (pv 4) pa_nil))) (pe_one (C8.pe_c c_has_twice hr (by first | decide | omega) rfl (pa_cons (pv 2) pa_nil))))) pa_nil))))
    (pss_one (ps_expr (C8.pe_c c_refuse hr (by first | decide | omega) rfl (pa_cons pe_str (pa_cons (pe_or (C8.pe_c c_has_measure hr (by first | decide | omega) rfl (pa_cons (pv 0) (pa_cons (pv 3) pa_nil))) (pe_one (C8.pe_c c_has_measure hr (by first | decide | omega) rfl (pa_cons (pv 1) (pa_cons (pv 4) pa_nil))))) pa_nil))))))))), ?_⟩
  have s0 : Step none G H G H := Step.refl hG
  refine ⟨_, rfl, l, rfl, ⟨_, SqL.of hp.l⟩, fun D hD => ?_⟩
  have gD := s0.gh.free hD
  have fD := s0.free hD
  refine lc_list (K := K) (a := l) (xs := ps.map fun q => V.ref q.1) (fun i H' => Step none G H G H' ∧ Same H H' ∧ H' D = some (.lst (sV ((ps.take i).map fun q => q.2.1)))) ⟨s0.loc fD gD, Same.new (Same.refl H) hD, upd_same⟩ ?_ ?_ ?_
  · rintro i H' _ ⟨s', k', _⟩
    exact SqL.of (k' _ _ hp.l)
  · rintro i x H' hx ⟨s', k', hL⟩
    obtain ⟨q, hq, rfl, hs, hi⟩ := (hp.same k').at_ hx
    refine ⟨q.1, _, rfl, hs, rfl, _, _, rfl, _, _, rfl, rfl, rfl, ?_⟩
    unfold tYes
    refine iteT ⟨_, rfl, _, hL, by rw [sV_len, List.length_map, List.length_take]; omega, s'.loc fD gD, Same.off k' hD, ?_⟩
    rw [upd_same, ← firsts_take (f := fun q => q.2.1) hq]
  rintro H1 ⟨s1, k1, hD1⟩
  rw [pl, List.take_length] at hD1
  have hp1 := hp.same k1
  refine ⟨_, rfl, l, rfl, ⟨_, SqL.of hp1.l⟩, fun D2 hD2 => ?_⟩
  have gD2 := s1.gh.free hD2
  have fD2 := s1.free hD2
  refine lc_list (K := K) (a := l) (xs := ps.map fun q => V.ref q.1) (fun i H' => Step none G H G H' ∧ Same H1 H' ∧ H' D2 = some (.lst (sV ((ps.take i).map fun q => q.2.2)))) ⟨s1.loc fD2 gD2, Same.new (Same.refl H1) hD2, upd_same⟩ ?_ ?_ ?_
  · rintro i H' _ ⟨s', k', _⟩
    exact SqL.of (k' _ _ hp1.l)
  · rintro i x H' hx ⟨s', k', hL⟩
    obtain ⟨q, hq, rfl, hs, hi⟩ := (hp1.same k').at_ hx
    refine ⟨q.1, _, rfl, hs, rfl, _, _, rfl, _, _, rfl, rfl, rfl, ?_⟩
    unfold tYes
    refine iteT ⟨_, rfl, _, hL, by rw [sV_len, List.length_map, List.length_take]; omega, s'.loc fD2 gD2, Same.off k' hD2, ?_⟩
    rw [upd_same, ← firsts_take (f := fun q => q.2.2) hq]
  rintro H2 ⟨s2, k2, hD2'⟩
  rw [pl, List.take_length] at hD2'
  have hp2 := hp1.same k2
  have hD12 := k2 _ _ hD1
  refine ⟨_, rfl, l, _, rfl, .inl (SqL.of hp2.l), _, _, rfl, rfl, _, rfl, ?_⟩
  refine ite2 (fun _ => ?_) (fun z => absurd (decide_eq_true (by omega)) z)
  refine ⟨_, _, rfl, rfl, _, rfl, ⟨_, bl2 (by rw [decide_eq_true (by omega)]; rfl), ?_⟩⟩
  refine ⟨_, rfl, _, rfl, G, a, D, st, ins, ps.map fun q => q.2.1, rfl, s2.gh, ha, .inl (SqL.of hD12), by rw [List.length_map]; omega, fun H3 s3 => ?_⟩
  rw [ok.a.strange]
  have s23 := s2.trans s3
  refine ⟨_, rfl, iteF ⟨_, rfl, _, rfl, G, b, D2, st2, ins2, ps.map fun q => q.2.2, rfl, s23.gh, hb, .inl (SqL.of (s3.all _ _ hD2')), by rw [List.length_map]; omega, fun H4 s4 => ?_⟩⟩
  rw [ok.b.strange]
  have s24 := s23.trans s4
  have k24 := s3.all.trans s4.all
  refine ⟨_, rfl, iteF ⟨_, rfl, l, ps, rfl, hp2.same k24, ok.nd, by omega, _, bl2 rfl, ?_⟩⟩
  refine ⟨_, rfl, _, rfl, G, a, D, st, ins, ps.map fun q => q.2.1, rfl, s24.gh, ha, .inl (SqL.of (k24 _ _ hD12)), by rw [List.length_map]; omega, fun H5 s5 => ?_⟩
  rw [ok.a.measure]
  have s25 := s24.trans s5
  refine ⟨_, rfl, iteF ⟨_, rfl, _, rfl, G, b, D2, st2, ins2, ps.map fun q => q.2.2, rfl, s25.gh, hb, .inl (SqL.of (k24.trans s5.all _ _ hD2')), by rw [List.length_map]; omega, fun H6 s6 => ⟨_, bl2 ok.b.measure, q H6 (s25.trans s6)⟩⟩⟩
abbrev N_check_join : List Str := ["left", "right", "pairs", "column"]
theorem sc_check_join : FnScope N_check_join ["left", "right", "pairs"] (defScope s_check_join) := ⟨rfl, rfl, rfl, by decide +kernel, rfl, by decide +kernel, by decide +kernel⟩
theorem c_check_join (T : Tx K mg) : C8.Cal P w K mg base 3 "check_join" (spCJoin K (CSt K)) [] := by
  obtain ⟨fd, F⟩ := f_check_join T
  have c_refuse := c_refuse (P := P) (w := w) (base := base) T
  have c_check_pairs := c_check_pairs (P := P) (w := w) (base := base) T
  refine mkCal F (g_check_join T) (F.bindsN fun _ _ _ _ _ _ us hl => match us, hl with | [_, _, _], _ => rfl) .nil sc_check_join (fun vs H Q E h => ?_) (fun cdv A outer s H vs Q E hr h => ?_)
  · obtain ⟨G, a, b, l, st, st2, ins, ins2, ps, rfl, _⟩ := h
    rfl
  obtain ⟨G, a, b, l, st, st2, ins, ins2, ps, rfl, hG, ha, hb, l60, dj, hp, ok, q⟩ := h
  obtain ⟨dx, i, cc, m, d, fs, h1, h2, h3, h4, h5, h6⟩ := ha.ex
  obtain ⟨dx2, i2, cc2, m2, d2, fs2, e1, e2, e3, e4, e5, e6⟩ := hb.ex
  have C0 := cls_Step_ T
  have sl : sizeLine = 16777216 := rfl
  have hx := sV_len st.cs
  refine ⟨_, (pss_cons (ps_expr (C8.pe_c c_refuse hr (by first | decide | omega) rfl (pa_cons pe_str (pa_cons (pe_callB (cr_any rfl) (by rfl) (z_any T) boot_any (pa_cons (pe_lc (own := [("column", 3)]) rfl sc_check_join.nd (pi_listK (K := K) rfl (pe_fldK (K := K) rfl (pv 0) (by rfl))) (blkOk_by (N := N_check_join) (sc := defScope s_check_join) (by decide +kernel)) (fun _ _ _ _ _ => (pg_name (i := 3) sc_check_join.nd rfl (Or.inl rfl))) (fun _ _ _ _ _ => pts_nil) (fun _ _ _ _ _ => (pe_cmpR (op_in_seqK (K := K) rfl) (pv 3) (pe_fldK (K := K) rfl (pv 1) (by rfl)) (by rfl)))) pa_nil)) pa_nil))))
    (pss_one (ps_expr (C8.pe_c c_check_pairs hr (by first | decide | omega) rfl (pa_cons (pv 0) (pa_cons (pv 1) (pa_cons (pv 2) pa_nil))))))), ?_⟩
  refine ⟨_, rfl, a, CSt K, dx, _, _, rfl, hG _ _ h1, C0, noat_Step_columns T, h2.c, cc, rfl, ⟨_, SqL.of (hG _ _ h4)⟩, fun D hD => ?_⟩
  have gD := hG.free hD
  refine lc_list (K := K) (a := cc) (xs := sV st.cs) (fun i H' => Step none G H G H' ∧ H' D = some (.lst ((List.replicate i false).map V.bl))) ⟨(Step.refl hG).loc hD gD, upd_same⟩ ?_ ?_ ?_
  · rintro i H' _ ⟨s', _⟩
    exact SqL.of (s'.gh _ _ h4)
  · rintro i x H' hx' ⟨s', hL⟩
    obtain ⟨k, mk, rfl, hi⟩ := sV_at' hx'
    refine ⟨rfl, ?_⟩
    unfold tYes
    refine iteT ⟨_, rfl, _, rfl, b, CSt K, dx2, _, _, rfl, s'.gh _ _ e1, C0, noat_Step_columns T, e2.c, cc2, sV st2.cs, rfl, .inl (SqL.of (s'.gh _ _ e4)), rfl, sV_flat _, _, hL, by rw [List.length_map, List.length_replicate]; omega, s'.loc hD gD, ?_⟩
    have e0 : inV (.str (S k)) (sV st2.cs) = false := by rw [inV_sV]; exact decide_eq_false (dj k (List.mem_of_getElem? mk))
    rw [upd_same]
    show some (HO.lst (((List.replicate i false).map V.bl) ++ [V.bl (inV (.str (S k)) (sV st2.cs))])) = _
    rw [e0, rep_app]
  rintro H1 ⟨s1, hD1⟩
  have any_rep : ∀ n : Nat, (List.replicate n false).any id = false := fun n => by
    rw [List.any_eq_false]
    intro x hx
    rw [(List.mem_replicate.mp hx).2]
    exact Bool.false_ne_true
  refine ⟨D, _, rfl, SqL.of hD1, _, bl2 (any_rep _), ?_⟩
  exact ⟨_, rfl, _, rfl, _, rfl, G, a, b, l, st, st2, ins, ins2, ps, rfl, s1.gh, ha, hb, hp.same s1.all, ok, fun H2 s2 => q H2 (s1.trans s2)⟩
abbrev N_check_union : List Str := ["left", "right"]
theorem sc_check_union : FnScope N_check_union ["left", "right"] (defScope s_check_union) := ⟨rfl, rfl, rfl, by decide +kernel, rfl, by decide +kernel, by decide +kernel⟩
theorem c_check_union (T : Tx K mg) : C8.Cal P w K mg base 2 "check_union" (spCUnion K (CSt K)) [] := by
  obtain ⟨fd, F⟩ := f_check_union T
  have c_refuse := c_refuse (P := P) (w := w) (base := base) T
  refine mkCal F (g_check_union T) (F.bindsN fun _ _ _ _ _ _ us hl => match us, hl with | [_, _], _ => rfl) .nil sc_check_union (fun vs H Q E h => ?_) (fun cdv A outer s H vs Q E hr h => ?_)
  · obtain ⟨G, a, b, st, st2, ins, ins2, rfl, _⟩ := h
    rfl
  obtain ⟨G, a, b, st, st2, ins, ins2, rfl, hG, ha, hb, e, q⟩ := h
  obtain ⟨dx, i, cc, m, d, fs, h1, h2, h3, h4, h5, h6⟩ := ha.ex
  obtain ⟨dx2, i2, cc2, m2, d2, fs2, e1, e2, e3, e4, e5, e6⟩ := hb.ex
  have C0 := cls_Step_ T
  refine ⟨_, (pss_one (ps_expr (C8.pe_c c_refuse hr (by first | decide | omega) rfl (pa_cons pe_str (pa_cons (pe_cmpR op_ne (pe_callB (call_len_seqK (K := K) rfl) (by rfl) (z_len T) boot_len (pa_cons (pe_fldK (K := K) rfl (pv 0) (by rfl)) pa_nil)) (pe_callB (call_len_seqK (K := K) rfl) (by rfl) (z_len T) boot_len (pa_cons (pe_fldK (K := K) rfl (pv 1) (by rfl)) pa_nil)) (nomark _)) pa_nil))))), ?_⟩
  refine ⟨_, rfl, a, CSt K, dx, _, _, rfl, hG _ _ h1, C0, noat_Step_columns T, h2.c, cc, _, rfl, .inl (SqL.of (hG _ _ h4)), _, rfl, b, CSt K, dx2, _, _, rfl, hG _ _ e1, C0, noat_Step_columns T, e2.c, cc2, _, rfl, .inl (SqL.of (hG _ _ e4)), rfl, _, bl2 ?_, q⟩
  rw [sV_len, sV_len, e, decide_eq_true rfl]
  rfl
theorem kp_Step_pairs (T : Tx K mg) : MakP P w K mg base 1 "Step" (CSt K) 5 ["pairs"] (fun vs zs => (fun (vs mv zs : List V) => vs ++ ((mv.drop 0).take 1 ++ ((mv.drop 1).take 1 ++ ((mv.drop 2).take 1 ++ ((mv.drop 3).take 1 ++ ((zs.drop 0).take 1 ++ ((mv.drop 4).take 1))))))) vs [V.non, V.str "", V.str "", dNa K, dSu K] zs) (spSInit K (CSt K)) := by
  obtain ⟨fd, RO, F⟩ := o_sinit (P := P) (w := w) (base := base) T
  obtain ⟨mv, hb⟩ := FunD.kbinds0 F 6 ["pairs"] [(("table" : Str), V.non), (("name" : Str), V.str ""), (("new" : Str), V.str ""), (("named" : Str), dNa K), (("sums" : Str), dSu K)] (fun {α} (vs mv zs : List α) => vs ++ ((mv.drop 0).take 1 ++ ((mv.drop 1).take 1 ++ ((mv.drop 2).take 1 ++ ((mv.drop 3).take 1 ++ ((zs.drop 0).take 1 ++ ((mv.drop 4).take 1))))))) (by rw [kws_S]; exact fun z => by cases z) (fun q h => by rw [kws_S]; simp only [List.mem_cons, List.mem_nil_iff, or_false] at h ⊢; rcases h with rfl | rfl | rfl | rfl | rfl <;> simp) (fun r1 r2 r3 => r1.append (((r2.drop 0).take 1).append (((r2.drop 1).take 1).append (((r2.drop 2).take 1).append (((r2.drop 3).take 1).append (((r3.drop 0).take 1).append ((r2.drop 4).take 1)))))))
    (ps := ["self", "kind", "inputs", "columns", "measures", "depths", "table", "name", "new", "named", "pairs", "sums"]) (fun D doc pm an cdv ct us mv ws h1 h2 h3 => match us, mv, ws, h1, h2, h3 with | [_, _, _, _, _, _], [_, _, _, _, _], [_], _, _, _ => ⟨_, _, _, _, _, _, rfl, rfl, ⟨_, _, _, _, _, _, rfl, rfl, ⟨_, _, _, _, _, _, rfl, rfl, ⟨_, _, _, _, _, _, rfl, rfl, ⟨_, _, _, _, _, _, rfl, rfl, rfl⟩⟩⟩⟩⟩)
  exact ⟨_, fd, _, _, mkr_Step_ T, RO, g_Step T, hb⟩
theorem m_Step (T : Tx K mg) : C8.Mak P w K mg base 1 "Step" (CSt K) (spSInit K (CSt K)) [V.non, V.str "", V.str "", dNa K, dPa K, dSu K] := by
  obtain ⟨fd, RO, F⟩ := o_sinit (P := P) (w := w) (base := base) T
  obtain ⟨ds, hd, hb⟩ := FunD.binds0 F 6 (ps := ["self", "kind", "inputs", "columns", "measures", "depths", "table", "name", "new", "named", "pairs", "sums"]) (by rw [kws_S]; exact fun z => by cases z) (by rw [kws_S]; rfl)
    (fun D doc pm an cdv ct us ks h1 h2 => match us, ks, h1, h2 with | [_, _, _, _, _, _], [_, _, _, _, _, _], _, _ => ⟨_, _, _, _, _, _, rfl, rfl, _, _, _, _, _, _, rfl, rfl, _, _, _, _, _, _, rfl, rfl, _, _, _, _, _, _, rfl, rfl, _, _, _, _, _, _, rfl, rfl, _, _, _, _, _, _, rfl, rfl, rfl⟩)
  exact ⟨_, fd, _, ds, mkr_Step_ T, RO, g_Step T, hb, hd⟩
abbrev N_Step_semi_with : List Str := ["self", "other", "on", "pairs"]
theorem sc_Step_semi_with : FnScope N_Step_semi_with ["self", "other", "on"] (defScope s_Step_semi_with) := ⟨rfl, rfl, rfl, by decide +kernel, rfl, by decide +kernel, by decide +kernel⟩
theorem t_semi_with (T : Tx K mg) : C8.Met P w K mg base 4 (CSt K) "semi_with" (spMSemi K (CSt K) kSemi) [] := by
  obtain ⟨fd, F⟩ := f_Step_semi_with T
  have kp_Step_pairs := kp_Step_pairs (P := P) (w := w) (base := base) T
  have c_tuples := c_tuples (P := P) (w := w) (base := base) T
  have c_check_pairs := c_check_pairs (P := P) (w := w) (base := base) T
  have RB : Binds K fd ["self", "other", "on"] [] := F.bindsN fun _ _ _ _ _ _ us hl => match us, hl with | [_, _, _], _ => rfl
  have RO : FnOk P w K mg base C8.CX0 4 (He.ma K (CSt K) "semi_with") fd ["self", "other", "on"] (spMSemi K (CSt K) kSemi) := by
    refine ok0' F sc_Step_semi_with (fun vs H Q E h => ?_) (fun cdv A outer s H vs Q E hr h => ?_)
    · obtain ⟨G, a, b, l, st, st2, ins, ins2, ps, rfl, _⟩ := h
      rfl
    obtain ⟨G, a, b, l, st, st2, ins, ins2, ps, rfl, hG, ha, hb, dk, hp, ok, q⟩ := h
    obtain ⟨dx, i, cc, m, d, fs, h1, h2, h3, h4, h5, h6⟩ := ha.ex
    have C0 := cls_Step_ T
    have p3 := ok.l3
    refine ⟨_, (pss_cons (ps_set (i := 3) sc_Step_semi_with.nd rfl (Or.inl rfl) (C8.pe_c c_tuples hr (by first | decide | omega) rfl (pa_cons (pv 2) pa_nil)))
    (pss_cons (ps_expr (C8.pe_c c_check_pairs hr (by first | decide | omega) rfl (pa_cons (pv 0) (pa_cons (pv 1) (pa_cons (pv 3) pa_nil)))))
    (pss_one (ps_ret (pe_mkp kp_Step_pairs hr (by first | decide | omega) rfl (pa_cons pe_str (pa_cons (pe_tup (pa_cons (pv 0) (pa_cons (pv 1) pa_nil))) (pa_cons (pe_fldK (K := K) rfl (pv 0) (by rfl)) (pa_cons (pe_fldK (K := K) rfl (pv 0) (by rfl)) (pa_cons (pe_fldK (K := K) rfl (pv 0) (by rfl)) pa_nil))))) (pk_cons (pv 3) pk_nil)))))), ?_⟩
    refine ⟨_, rfl, G, l, ps, rfl, hG, hp, by omega, fun H1 l1 qs s1 hq e => ?_⟩
    refine ⟨_, rfl, _, rfl, _, rfl, G, a, b, l1, st, st2, ins, ins2, qs, rfl, s1.gh, ha, hb, hq, ok.of e, fun H2 s2 => ?_⟩
    have s12 := s1.trans s2
    have hq2 := hq.same s2.all
    refine ⟨_, rfl, _, rfl, by show 2 ≤ sizeLine; decide, fun t ht => ?_⟩
    have s3 : Step none G H (upd G t (.tup [.ref a, .ref b])) (upd H2 t (.tup [.ref a, .ref b])) := s12.new_ ht
    have gt : upd G t (.tup [.ref a, .ref b]) t = some (.tup [.ref a, .ref b]) := upd_same
    have hq3 := hq2.same (Same.new (Same.refl H2) ht (o := .tup [.ref a, .ref b]))
    generalize upd G t (.tup [.ref a, .ref b]) = G3 at *
    generalize upd H2 t (.tup [.ref a, .ref b]) = H3 at *
    have h1' := s3.same _ _ (hG _ _ h1)
    refine ⟨_, rfl, a, CSt K, dx, _, _, rfl, h1', C0, noat_Step_columns T, h2.c, _, rfl, a, CSt K, dx, _, _, rfl, h1', C0, noat_Step_measures T, h2.m, _, rfl, a, CSt K, dx, _, _, rfl, h1', C0, noat_Step_depths T, h2.d, _, rfl, rfl, rfl, fun x dx' hx hdx ne => ?_⟩
    have D0 := dfl_ T H3
    exact mkS (st := { st with kd := kSemi }) s3.gh gt (.inl (SqL.of (s3.gh _ _ (s3.gg _ _ h4)))) (SqL.of (s3.gh _ _ (s3.gg _ _ h5))) (s3.gh _ _ (s3.gg _ _ h6)) dk.nd (Nat.le_trans dk.le (by decide)) D0.n (.inl (SqL.of hq3.l)) D0.s (fun G' H' s9 at1 hx0 => q G' H' x (s3.trans s9) at1 (s3.free hx0)) hx hdx ne
  exact ⟨_, fd, _, _, cls_Step_ T, meth_Step_semi_with T, RO, RB, .nil⟩
abbrev N_Step_anti_with : List Str := ["self", "other", "on", "pairs"]
theorem sc_Step_anti_with : FnScope N_Step_anti_with ["self", "other", "on"] (defScope s_Step_anti_with) := ⟨rfl, rfl, rfl, by decide +kernel, rfl, by decide +kernel, by decide +kernel⟩
theorem t_anti_with (T : Tx K mg) : C8.Met P w K mg base 4 (CSt K) "anti_with" (spMSemi K (CSt K) kAnti) [] := by
  obtain ⟨fd, F⟩ := f_Step_anti_with T
  have kp_Step_pairs := kp_Step_pairs (P := P) (w := w) (base := base) T
  have c_tuples := c_tuples (P := P) (w := w) (base := base) T
  have c_check_pairs := c_check_pairs (P := P) (w := w) (base := base) T
  have RB : Binds K fd ["self", "other", "on"] [] := F.bindsN fun _ _ _ _ _ _ us hl => match us, hl with | [_, _, _], _ => rfl
  have RO : FnOk P w K mg base C8.CX0 4 (He.ma K (CSt K) "anti_with") fd ["self", "other", "on"] (spMSemi K (CSt K) kAnti) := by
    refine ok0' F sc_Step_anti_with (fun vs H Q E h => ?_) (fun cdv A outer s H vs Q E hr h => ?_)
    · obtain ⟨G, a, b, l, st, st2, ins, ins2, ps, rfl, _⟩ := h
      rfl
    obtain ⟨G, a, b, l, st, st2, ins, ins2, ps, rfl, hG, ha, hb, dk, hp, ok, q⟩ := h
    obtain ⟨dx, i, cc, m, d, fs, h1, h2, h3, h4, h5, h6⟩ := ha.ex
    have C0 := cls_Step_ T
    have p3 := ok.l3
    refine ⟨_, (pss_cons (ps_set (i := 3) sc_Step_anti_with.nd rfl (Or.inl rfl) (C8.pe_c c_tuples hr (by first | decide | omega) rfl (pa_cons (pv 2) pa_nil)))
    (pss_cons (ps_expr (C8.pe_c c_check_pairs hr (by first | decide | omega) rfl (pa_cons (pv 0) (pa_cons (pv 1) (pa_cons (pv 3) pa_nil)))))
    (pss_one (ps_ret (pe_mkp kp_Step_pairs hr (by first | decide | omega) rfl (pa_cons pe_str (pa_cons (pe_tup (pa_cons (pv 0) (pa_cons (pv 1) pa_nil))) (pa_cons (pe_fldK (K := K) rfl (pv 0) (by rfl)) (pa_cons (pe_fldK (K := K) rfl (pv 0) (by rfl)) (pa_cons (pe_fldK (K := K) rfl (pv 0) (by rfl)) pa_nil))))) (pk_cons (pv 3) pk_nil)))))), ?_⟩
    refine ⟨_, rfl, G, l, ps, rfl, hG, hp, by omega, fun H1 l1 qs s1 hq e => ?_⟩
    refine ⟨_, rfl, _, rfl, _, rfl, G, a, b, l1, st, st2, ins, ins2, qs, rfl, s1.gh, ha, hb, hq, ok.of e, fun H2 s2 => ?_⟩
    have s12 := s1.trans s2
    have hq2 := hq.same s2.all
    refine ⟨_, rfl, _, rfl, by show 2 ≤ sizeLine; decide, fun t ht => ?_⟩
    have s3 : Step none G H (upd G t (.tup [.ref a, .ref b])) (upd H2 t (.tup [.ref a, .ref b])) := s12.new_ ht
    have gt : upd G t (.tup [.ref a, .ref b]) t = some (.tup [.ref a, .ref b]) := upd_same
    have hq3 := hq2.same (Same.new (Same.refl H2) ht (o := .tup [.ref a, .ref b]))
    generalize upd G t (.tup [.ref a, .ref b]) = G3 at *
    generalize upd H2 t (.tup [.ref a, .ref b]) = H3 at *
    have h1' := s3.same _ _ (hG _ _ h1)
    refine ⟨_, rfl, a, CSt K, dx, _, _, rfl, h1', C0, noat_Step_columns T, h2.c, _, rfl, a, CSt K, dx, _, _, rfl, h1', C0, noat_Step_measures T, h2.m, _, rfl, a, CSt K, dx, _, _, rfl, h1', C0, noat_Step_depths T, h2.d, _, rfl, rfl, rfl, fun x dx' hx hdx ne => ?_⟩
    have D0 := dfl_ T H3
    exact mkS (st := { st with kd := kAnti }) s3.gh gt (.inl (SqL.of (s3.gh _ _ (s3.gg _ _ h4)))) (SqL.of (s3.gh _ _ (s3.gg _ _ h5))) (s3.gh _ _ (s3.gg _ _ h6)) dk.nd (Nat.le_trans dk.le (by decide)) D0.n (.inl (SqL.of hq3.l)) D0.s (fun G' H' s9 at1 hx0 => q G' H' x (s3.trans s9) at1 (s3.free hx0)) hx hdx ne
  exact ⟨_, fd, _, _, cls_Step_ T, meth_Step_anti_with T, RO, RB, .nil⟩
end Pf
namespace Pf
open PySem PySem.Spec PyProof.Rows L2 Bs SX
variable {P : Program} {w : World} {K : PySem.W.Frag} {mg : Str → Option Value} {base : Heap}
abbrev N_Step_join_with : List Str := ["self", "other", "on", "pairs"]
theorem sc_Step_join_with : FnScope N_Step_join_with ["self", "other", "on"] (defScope s_Step_join_with) := ⟨rfl, rfl, rfl, by decide +kernel, rfl, by decide +kernel, by decide +kernel⟩
theorem o_join_with (T : Tx K mg) : ∃ fd, FnOk P w K mg base C8.CX0 5 (He.ma K (CSt K) "join_with") fd ["self", "other", "on"] (spMJoin K (CSt K)) ∧ FunD K d_Step_join_with.2.name d_Step_join_with.2.qual d_Step_join_with.2.params d_Step_join_with.2.body d_Step_join_with.2.scope (d_Step_join_with.2.dvs K) (d_Step_join_with.2.kws K) (d_Step_join_with.1 K) fd := by
  obtain ⟨fd, F⟩ := f_Step_join_with T
  have kp_Step_pairs := kp_Step_pairs (P := P) (w := w) (base := base) T
  have c_tuples := c_tuples (P := P) (w := w) (base := base) T
  have c_check_join := c_check_join (P := P) (w := w) (base := base) T
  refine ⟨fd, ?_, F⟩
  refine ok0' F sc_Step_join_with (fun vs H Q E h => ?_) (fun cdv A outer s H vs Q E hr h => ?_)
  · obtain ⟨G, a, b, l, st, st2, ins, ins2, ps, rfl, _⟩ := h
    rfl
  obtain ⟨G, a, b, l, st, st2, ins, ins2, ps, rfl, hG, ha, hb, oks, oks2, dj, hp, ok, q⟩ := h
  obtain ⟨dx, i, cc, m, d, fs, h1, h2, h3, h4, h5, h6⟩ := ha.ex
  obtain ⟨dx2, i2, cc2, m2, d2, fs2, e1, e2, e3, e4, e5, e6⟩ := hb.ex
  have C0 := cls_Step_ T
  have sl : sizeLine = 16777216 := rfl
  have p3 := ok.l3
  have ln1 := oks.ln
  have ln2 := oks2.ln
  have dl1 := oks.dl
  have dl2 := oks2.dl
  have lm1 : st.ms.length ≤ 60 := Nat.le_trans (nodup_len oks.nm oks.ms) ln1
  have lm2 : st2.ms.length ≤ 60 := Nat.le_trans (nodup_len oks2.nm oks2.ms) ln2
  have dnd : ((st.ds ++ st2.ds).map (·.1)).Nodup := by
    rw [List.map_append]
    exact nodup_join oks.dn oks2.dn fun c hc hc2 => dj c (oks.dk c hc) (oks2.dk c hc2)
  refine ⟨_, (pss_cons (ps_set (i := 3) sc_Step_join_with.nd rfl (Or.inl rfl) (C8.pe_c c_tuples hr (by first | decide | omega) rfl (pa_cons (pv 2) pa_nil)))
    (pss_cons (ps_expr (C8.pe_c c_check_join hr (by first | decide | omega) rfl (pa_cons (pv 0) (pa_cons (pv 1) (pa_cons (pv 3) pa_nil)))))
    (pss_one (ps_ret (pe_mkp kp_Step_pairs hr (by first | decide | omega) rfl (pa_cons pe_str (pa_cons (pe_tup (pa_cons (pv 0) (pa_cons (pv 1) pa_nil))) (pa_cons (pe_op op_cat (pe_fldK (K := K) rfl (pv 0) (by rfl)) (pe_fldK (K := K) rfl (pv 1) (by rfl))) (pa_cons (pe_op op_cat (pe_fldK (K := K) rfl (pv 0) (by rfl)) (pe_fldK (K := K) rfl (pv 1) (by rfl))) (pa_cons (Dm.pe_dss (pe_fldK (K := K) rfl (pv 0) (by rfl)) (pe_fldK (K := K) rfl (pv 1) (by rfl))) pa_nil))))) (pk_cons (pv 3) pk_nil)))))), ?_⟩
  refine ⟨_, rfl, G, l, ps, rfl, hG, hp, by omega, fun H1 l1 qs s1 hq e => ?_⟩
  refine ⟨_, rfl, _, rfl, _, rfl, G, a, b, l1, st, st2, ins, ins2, qs, rfl, s1.gh, ha, hb, ln1, dj, hq, ok.of e, fun H2 s2 => ?_⟩
  have s12 := s1.trans s2
  have hq2 := hq.same s2.all
  refine ⟨_, rfl, _, rfl, by show 2 ≤ sizeLine; decide, fun t ht => ?_⟩
  have s3 : Step none G H (upd G t (.tup [.ref a, .ref b])) (upd H2 t (.tup [.ref a, .ref b])) := s12.new_ ht
  have gt : upd G t (.tup [.ref a, .ref b]) t = some (.tup [.ref a, .ref b]) := upd_same
  have hq3 := hq2.same (Same.new (Same.refl H2) ht (o := .tup [.ref a, .ref b]))
  generalize upd G t (.tup [.ref a, .ref b]) = G3 at *
  generalize upd H2 t (.tup [.ref a, .ref b]) = H3 at *
  have fa : ∀ {H4 : Hp}, Step none G H G3 H4 → H4 a = some (.ins (CSt K) dx fs) := fun s4 => s4.same _ _ (hG _ _ h1)
  have fb : ∀ {H4 : Hp}, Step none G H G3 H4 → H4 b = some (.ins (CSt K) dx2 fs2) := fun s4 => s4.same _ _ (hG _ _ e1)
  -- the columns
  refine ⟨_, rfl, a, CSt K, dx, _, _, rfl, fa s3, C0, noat_Step_columns T, h2.c, _, rfl, b, CSt K, dx2, _, _, rfl, fb s3, C0, noat_Step_columns T, e2.c, cc, cc2, _, _, rfl, rfl, s3.gh _ _ (s3.gg _ _ h4), s3.gh _ _ (s3.gg _ _ e4), by rw [sV_len, sV_len]; omega, fun c he => ?_⟩
  rw [sV_app]
  have s4 := s3.loc (o := .lst (sV (st.cs ++ st2.cs))) (s3.free he) (s3.gh.free he)
  have k4 : Same H3 (upd H3 c (.lst (sV (st.cs ++ st2.cs)))) := Same.new (Same.refl H3) he
  have hc4 : upd H3 c (.lst (sV (st.cs ++ st2.cs))) c = some (.lst (sV (st.cs ++ st2.cs))) := upd_same
  generalize upd H3 c (.lst (sV (st.cs ++ st2.cs))) = H4 at *
  -- the measures
  refine ⟨_, rfl, a, CSt K, dx, _, _, rfl, fa s4, C0, noat_Step_measures T, h2.m, _, rfl, b, CSt K, dx2, _, _, rfl, fb s4, C0, noat_Step_measures T, e2.m, m, m2, _, _, rfl, rfl, s4.gh _ _ (s4.gg _ _ h5), s4.gh _ _ (s4.gg _ _ e5), by rw [sV_len, sV_len]; omega, fun g hg => ?_⟩
  rw [sV_app]
  have s5 := s4.loc (o := .lst (sV (st.ms ++ st2.ms))) (s4.free hg) (s4.gh.free hg)
  have k5 : Same H4 (upd H4 g (.lst (sV (st.ms ++ st2.ms)))) := Same.new (Same.refl H4) hg
  have hg5 : upd H4 g (.lst (sV (st.ms ++ st2.ms))) g = some (.lst (sV (st.ms ++ st2.ms))) := upd_same
  generalize upd H4 g (.lst (sV (st.ms ++ st2.ms))) = H5 at *
  -- the depths
  intro D hD
  have hD0 := s5.free hD
  have gD := s5.gh.free hD
  have s6 := s5.loc (o := .dK []) hD0 gD
  have ne1 : D ≠ d := fun z => by rw [z, s5.gg _ _ h6] at gD; cases gD
  have ne2 : D ≠ d2 := fun z => by rw [z, s5.gg _ _ e6] at gD; cases gD
  refine ⟨_, rfl, a, CSt K, dx, _, _, rfl, fa s6, C0, noat_Step_depths T, h2.d, d, dV st.ds, rfl, upd_same, s6.gh _ _ (s6.gg _ _ h6), ne1, by rw [dV_len]; omega, ?_⟩
  rw [merge_dV _ oks.dn]
  have s7 := s6.loc (o := .dK (dV st.ds)) hD0 gD
  refine ⟨_, rfl, b, CSt K, dx2, _, _, rfl, fb s7, C0, noat_Step_depths T, e2.d, d2, dV st2.ds, rfl, upd_same, s7.gh _ _ (s7.gg _ _ e6), ne2, by rw [dV_len]; omega, ?_⟩
  rw [merge_app _ _ dnd]
  have s8 := s7.loc (o := .dK (dV (st.ds ++ st2.ds))) hD0 gD
  have k8 : Same H5 (upd (upd (upd H5 D (.dK [])) D (.dK (dV st.ds))) D (.dK (dV (st.ds ++ st2.ds)))) := Same.off (Same.off (Same.off (Same.refl H5) hD) hD) hD
  have hD8 : upd (upd (upd H5 D (.dK [])) D (.dK (dV st.ds))) D (.dK (dV (st.ds ++ st2.ds))) D = some (.dK (dV (st.ds ++ st2.ds))) := upd_same
  generalize upd (upd (upd H5 D (.dK [])) D (.dK (dV st.ds))) D (.dK (dV (st.ds ++ st2.ds))) = H8 at *
  refine ⟨_, rfl, rfl, rfl, fun x dx' hx hdx ne => ?_⟩
  have D0 := dfl_ T H8
  have k38 := (k4.trans k5).trans k8
  exact mkS (st := ⟨kJoin, st.cs ++ st2.cs, st.ms ++ st2.ms, st.ds ++ st2.ds⟩) s8.gh gt (.inl (SqL.of ((k5.trans k8) _ _ hc4))) (SqL.of (k8 _ _ hg5)) hD8 dnd (by rw [List.length_append]; omega) D0.n (.inl (SqL.of (hq3.same k38).l)) D0.s (fun G' H' s9 at1 hx0 => q G' H' x (s8.trans s9) at1 (s8.free hx0)) hx hdx ne
theorem t_join_with (T : Tx K mg) : C8.Met P w K mg base 5 (CSt K) "join_with" (spMJoin K (CSt K)) [] := by
  obtain ⟨fd, RO, F⟩ := o_join_with (P := P) (w := w) (base := base) T
  exact ⟨_, fd, _, _, cls_Step_ T, meth_Step_join_with T, RO, F.bindsN fun _ _ _ _ _ _ us hl => match us, hl with | [_, _, _], _ => rfl, .nil⟩
end Pf
namespace Bs
open PySem PySem.Spec PyProof.Rows L2 SX
variable {P : Program} {w : World} {K : PySem.W.Frag} {mg : Str → Option Value} {base : Heap}
abbrev Cp : Type := List Nat × List Nat
/-- the one that is larger -/
def mx2 (a b : Nat) : Nat := if a < b then b else a
theorem mx2_int (a b : Nat) : (V.int (if (b : Int) > (a : Int) then (b : Int) else (a : Int))) = V.int (mx2 a b : Nat) := by
  unfold mx2
  by_cases h : a < b
  · rw [if_pos h, if_pos (by omega)]
  · rw [if_neg h, if_neg (by omega)]
def unP (st st2 : Stp) (p : Cp) : Bool := decide (p.1 ∈ st.ms) || decide (p.2 ∈ st2.ms)
abbrev unMs (st st2 : Stp) (ps : List Cp) : List (List Nat) := (ps.filter (unP st st2)).map (·.1)
abbrev unDs (st st2 : Stp) (ps : List Cp) : List (List Nat × Nat) := (ps.filter fun p => !unP st st2 p).map fun p => (p.1, mx2 (dep st p.1) (dep st2 p.2))
theorem zip_at {xs ys : List (List Nat)} {i : Nat} {x y : List Nat} (h1 : xs[i]? = some x) (h2 : ys[i]? = some y) : (xs.zip ys)[i]? = some (x, y) := List.getElem?_zip_eq_some.mpr ⟨h1, h2⟩
theorem filter_takeP {ps : List Cp} {i : Nat} {p : Cp} {f : Cp → Bool} (h : ps[i]? = some p) : (ps.take (i + 1)).filter f = (ps.take i).filter f ++ (if f p = true then [p] else []) := by
  rw [List.take_succ, h, List.filter_append]
  show _ ++ List.filter f [p] = _
  rw [List.filter_cons, List.filter_nil]
theorem unDs_keys (st st2 : Stp) (ps : List Cp) : (unDs st st2 ps).map (·.1) = (ps.filter fun p => !unP st st2 p).map (·.1) := by
  unfold unDs
  rw [List.map_map]
  rfl
theorem zip_fst {xs ys : List (List Nat)} (h : xs.length = ys.length) : (xs.zip ys).map (·.1) = xs := by
  induction xs generalizing ys with
  | nil => cases ys <;> rfl
  | cons x r ih => cases ys with
    | nil => cases h
    | cons y s =>
      show x :: (r.zip s).map (·.1) = _
      rw [ih (by simpa using h)]
theorem un_sub (ps : List Cp) (f : Cp → Bool) (i : Nat) : (((ps.take i).filter f).map (·.1)).Sublist (ps.map (·.1)) := (List.filter_sublist.trans (List.take_sublist _ _)).map _
def spMUnion (K : PySem.W.Frag) (C : Addr) : Sp := fun vs H Q _ => ∃ (G : Hp) (a b : Addr) (st st2 : Stp) (ins ins2 : List V), vs = [.ref a, .ref b] ∧ Same G H ∧ StAt K C G a st ins ∧ StAt K C G b st2 ins2 ∧ OkS st ∧ OkS st2 ∧ st.cs.length = st2.cs.length ∧
  MkSt K C G H ⟨kUnion, st.cs, unMs st st2 (st.cs.zip st2.cs), unDs st st2 (st.cs.zip st2.cs)⟩ [.ref a, .ref b] Q
end Bs
namespace Pf
open PySem PySem.Spec PyProof.Rows L2 Bs SX
variable {P : Program} {w : World} {K : PySem.W.Frag} {mg : Str → Option Value} {base : Heap}
theorem sf_Step (T : Tx K mg) : PySem.W.selfFirst K (CSt K) = true := ex_18 T
abbrev N_Step_add : List Str := ["self", "other", "measures", "depths", "column", "second"]
theorem sc_Step_add : FnScope N_Step_add ["self", "other"] (defScope s_Step_add) := ⟨rfl, rfl, rfl, by decide +kernel, rfl, by decide +kernel, by decide +kernel⟩
theorem o_add (T : Tx K mg) : ∃ fd, FnOk P w K mg base C8.CX0 4 (He.ma K (CSt K) "__add__") fd ["self", "other"] (spMUnion K (CSt K)) ∧ FunD K d_Step_add.2.name d_Step_add.2.qual d_Step_add.2.params d_Step_add.2.body d_Step_add.2.scope (d_Step_add.2.dvs K) (d_Step_add.2.kws K) (d_Step_add.1 K) fd := by
  obtain ⟨fd, F⟩ := f_Step_add T
  have m_Step := m_Step (P := P) (w := w) (base := base) T
  have c_check_union := c_check_union (P := P) (w := w) (base := base) T
  refine ⟨fd, ?_, F⟩
  refine ok0' F sc_Step_add (fun vs H Q E h => ?_) (fun cdv A outer s H vs Q E hr h => ?_)
  · obtain ⟨G, a, b, st, st2, ins, ins2, rfl, _⟩ := h
    rfl
  obtain ⟨G, a, b, st, st2, ins, ins2, rfl, hG, ha, hb, oks, oks2, hl, q⟩ := h
  obtain ⟨dx, i, cc, m, d, fs, h1, h2, h3, h4, h5, h6⟩ := ha.ex
  obtain ⟨dx2, i2, cc2, m2, d2, fs2, e1, e2, e3, e4, e5, e6⟩ := hb.ex
  have C0 := cls_Step_ T
  have hu := hu_of hr
  have sl : sizeLine = 16777216 := rfl
  have ln1 := oks.ln
  have ln2 := oks2.ln
  have lx := sV_len st.cs
  have ly := sV_len st2.cs
  have hzl : (st.cs.zip st2.cs).map (·.1) = st.cs := zip_fst hl
  have lz : (st.cs.zip st2.cs).length = st.cs.length := by rw [← List.length_map (f := fun x : Cp => x.1), hzl]
  have msl : ∀ (f : Cp → Bool) (j : Nat), (((st.cs.zip st2.cs).take j).filter f).length ≤ 60 := fun f j => by
    have := (un_sub (st.cs.zip st2.cs) f j).length_le
    rw [hzl, List.length_map] at this
    omega
  have dsn : ∀ j : Nat, ((unDs st st2 ((st.cs.zip st2.cs).take j)).map (·.1)).Nodup := fun j => by
    rw [unDs_keys]
    have e0 : ((st.cs.zip st2.cs).map (·.1)).Nodup := by rw [hzl]; exact oks.nd
    exact e0.sublist (un_sub _ _ _)
  refine ⟨_, (pss_cons (ps_expr (C8.pe_c c_check_union hr (by first | decide | omega) rfl (pa_cons (pv 0) (pa_cons (pv 1) pa_nil))))
    (pss_cons (ps_set (i := 2) sc_Step_add.nd rfl (Or.inl rfl) (pe_lst pa_nil))
    (pss_cons (ps_set (i := 3) sc_Step_add.nd rfl (Or.inl rfl) pe_dnewK)
    (pss_cons (ps_for PassesOwn.never rfl (pi_zip (by rfl) (z_zip T) (pa_cons (pe_fldK (K := K) rfl (pv 0) (by rfl)) (pa_cons (pe_fldK (K := K) rfl (pv 1) (by rfl)) pa_nil))) (pg_tupK (K := K) (n := 2) rfl rfl (pgs_cons (pg_name (i := 4) sc_Step_add.nd rfl (Or.inl rfl)) (pgs_cons (pg_name (i := 5) sc_Step_add.nd rfl (Or.inl rfl)) pgs_nil))) (pss_one (ps_if (PW.pt (pw_or (pt_cmpR (op_in_seqK (K := K) rfl) (pv 4) (pe_fldK (K := K) rfl (pv 0) (by rfl)) (by rfl)) (pw_or1 (pt_cmpR (op_in_seqK (K := K) rfl) (pv 5) (pe_fldK (K := K) rfl (pv 1) (by rfl)) (by rfl))))) (pss_one (ps_expr (pe_bm PySem.F.plainAttrs_list PySem.F.slot_list_append PySem.F.type_list_append mt_append (pv 2) (pa_cons (pv 4) pa_nil)))) (pss_one (ps_dput hu (pv 3) (pv 4) (pe_callB (call_max2 rfl) (by rfl) (z_max T) boot_max (pa_cons (pe_dget hu (pe_fldK (K := K) rfl (pv 0) (by rfl)) (pv 4) (fun _ _ => rfl)) (pa_cons (pe_dget hu (pe_fldK (K := K) rfl (pv 1) (by rfl)) (pv 5) (fun _ _ => rfl)) pa_nil))) rfl)))))
    (pss_one (ps_ret (C8.pe_mk m_Step hr (by first | decide | omega) rfl (pa_cons pe_str (pa_cons (pe_tup (pa_cons (pv 0) (pa_cons (pv 1) pa_nil))) (pa_cons (pe_fldK (K := K) rfl (pv 0) (by rfl)) (pa_cons (pv 2) (pa_cons (pv 3) pa_nil)))))))))))), ?_⟩
  refine ⟨_, rfl, _, rfl, G, a, b, st, st2, ins, ins2, rfl, hG, ha, hb, hl, by show 0 ≤ sizeLine; decide, fun D hD => ?_⟩
  have gD := hG.free hD
  have s1 := (Step.refl (p := none) hG).loc (o := .lst []) hD gD
  have hD1 : upd H D (.lst []) D = some (.lst []) := upd_same
  generalize upd H D (.lst []) = H1 at *
  refine fun D2 hD2 => ?_
  have gD2 := s1.gh.free hD2
  have fD2 := s1.free hD2
  have nDD : D ≠ D2 := ne_of_none hD1 hD2
  have s2 := s1.loc (o := .dK []) fD2 gD2
  refine ⟨_, rfl, a, CSt K, dx, _, _, rfl, s2.gh _ _ h1, C0, noat_Step_columns T, h2.c, _, rfl, b, CSt K, dx2, _, _, rfl, s2.gh _ _ e1, C0, noat_Step_columns T, e2.c, cc, cc2, sV st.cs, sV st2.cs, rfl, SqL.of (s2.gh _ _ h4), SqL.of (s2.gh _ _ e4), ?_⟩
  refine RZ.for_zipL (K := K) (a := cc) (b := cc2) (xs := sV st.cs) (ys := sV st2.cs) (by omega) (fun j σ H' => ∃ o4 o5 : Option V, σ = [some (.ref a), some (.ref b), some (.ref D), some (.ref D2), o4, o5] ∧ Step none G H G H' ∧ H' D = some (.lst (sV (unMs st st2 ((st.cs.zip st2.cs).take j)))) ∧ H' D2 = some (.dK (dV (unDs st st2 ((st.cs.zip st2.cs).take j))))) ⟨none, none, rfl, s2, by rw [upd_ne nDD]; exact hD1, upd_same⟩ ?_ ?_ ?_
  · rintro j σ H' ⟨o4, o5, rfl, s', _, _⟩
    exact ⟨SqL.of (s'.gh _ _ h4), SqL.of (s'.gh _ _ e4)⟩
  · rintro j x y Z σ H' hx hy ⟨o4, o5, rfl, s', hL, hM⟩ hZ
    obtain ⟨k, mk, rfl, hi⟩ := sV_at' hx
    obtain ⟨k2, mk2, rfl, hi2⟩ := sV_at' hy
    have mz := zip_at mk mk2
    have s3 := s'.loc (o := .tup [V.str (S k), V.str (S k2)]) (s'.free hZ) (s'.gh.free hZ)
    have hL3 : upd H' Z (.tup [V.str (S k), V.str (S k2)]) D = _ := (upd_ne (ne_of_none hL hZ)).trans hL
    have hM3 : upd H' Z (.tup [V.str (S k), V.str (S k2)]) D2 = _ := (upd_ne (ne_of_none hM hZ)).trans hM
    have hZ3 : SqT K (upd H' Z (.tup [V.str (S k), V.str (S k2)])) Z [V.str (S k), V.str (S k2)] := SqT.of upd_same
    generalize upd H' Z (.tup [V.str (S k), V.str (S k2)]) = H3 at *
    have f1 : inV (.str (S k)) (sV st.ms) = decide (k ∈ st.ms) := inV_sV _ _
    have f2 : inV (.str (S k2)) (sV st2.ms) = decide (k2 ∈ st2.ms) := inV_sV _ _
    have yes : unP st st2 (k, k2) = true → ∃ o4 o5 : Option V, [some (V.ref a), some (.ref b), some (.ref D), some (.ref D2), some (.str (S k)), some (.str (S k2))] = [some (.ref a), some (.ref b), some (.ref D), some (.ref D2), o4, o5] ∧ Step none G H G (upd H3 D (.lst (sV (unMs st st2 ((st.cs.zip st2.cs).take j)) ++ [V.str (S k)]))) ∧ (upd H3 D (.lst (sV (unMs st st2 ((st.cs.zip st2.cs).take j)) ++ [V.str (S k)]))) D = some (.lst (sV (unMs st st2 ((st.cs.zip st2.cs).take (j + 1))))) ∧ (upd H3 D (.lst (sV (unMs st st2 ((st.cs.zip st2.cs).take j)) ++ [V.str (S k)]))) D2 = some (.dK (dV (unDs st st2 ((st.cs.zip st2.cs).take (j + 1))))) := fun hb => by
      refine ⟨_, _, rfl, s3.loc hD gD, ?_, ?_⟩
      · rw [upd_same]
        show _ = some (HO.lst (sV (((((st.cs.zip st2.cs).take (j + 1)).filter (unP st st2))).map (·.1))))
        rw [filter_takeP mz, if_pos hb, List.map_append, ← sV_app]
        rfl
      · rw [upd_ne nDD.symm, hM3]
        show _ = some (HO.dK (dV (((((st.cs.zip st2.cs).take (j + 1)).filter (fun p => !unP st st2 p))).map fun p => (p.1, mx2 (dep st p.1) (dep st2 p.2)))))
        rw [filter_takeP mz, if_neg (by rw [hb]; exact Bool.false_ne_true), List.append_nil]
    have ll : (sV (unMs st st2 ((st.cs.zip st2.cs).take j))).length + 1 ≤ sizeLine := by
      rw [sV_len, List.length_map]
      have := msl (unP st st2) j
      omega
    refine ⟨Z, _, rfl, hZ3, rfl, _, _, rfl, _, _, rfl, rfl, ?_⟩
    refine ⟨_, rfl, _, rfl, a, CSt K, dx, _, _, rfl, s3.gh _ _ h1, C0, noat_Step_measures T, h2.m, m, sV st.ms, rfl, .inl (SqL.of (s3.gh _ _ h5)), rfl, sV_flat _, _, rfl, ?_⟩
    refine ite2 (fun hb => ?_) (fun hb => ?_)
    · have hb : decide (k ∈ st.ms) = true := f1.symm.trans hb
      refine iteT ⟨_, rfl, .inl ⟨rfl, _, SqL.of hL3⟩, _, rfl, D, _, _, rfl, rfl, hL3, ll, yes ?_⟩
      show (_ || _) = true
      rw [hb, Bool.true_or]
    have hb : ¬ decide (k ∈ st.ms) = true := fun z => hb (f1.trans z)
    refine ⟨_, rfl, _, rfl, b, CSt K, dx2, _, _, rfl, s3.gh _ _ e1, C0, noat_Step_measures T, e2.m, m2, sV st2.ms, rfl, .inl (SqL.of (s3.gh _ _ e5)), rfl, sV_flat _, _, rfl, ?_⟩
    refine ite2 (fun hb2 => ?_) (fun hb2 => ?_)
    · have hb2 : decide (k2 ∈ st2.ms) = true := f2.symm.trans hb2
      refine ⟨_, rfl, .inl ⟨rfl, _, SqL.of hL3⟩, _, rfl, D, _, _, rfl, rfl, hL3, ll, yes ?_⟩
      show (_ || _) = true
      rw [hb2, Bool.or_true]
    have hb2 : ¬ decide (k2 ∈ st2.ms) = true := fun z => hb2 (f2.trans z)
    have no : unP st st2 (k, k2) = false := by
      show (_ || _) = false
      rw [eq_false_of_ne_true hb, eq_false_of_ne_true hb2]
      rfl
    have hv : some (V.int (dep st k : Nat)) = valV (dV st.ds) (Sum.inr (S k)) := (dV_get (oks.dep (List.mem_of_getElem? mk) (fun z => hb (decide_eq_true z))).1).symm
    have hv2 : some (V.int (dep st2 k2 : Nat)) = valV (dV st2.ds) (Sum.inr (S k2)) := (dV_get (oks2.dep (List.mem_of_getElem? mk2) (fun z => hb2 (decide_eq_true z))).1).symm
    refine ⟨_, rfl, a, CSt K, dx, _, _, rfl, s3.gh _ _ h1, C0, noat_Step_depths T, h2.d, _, rfl, d, _, rfl, .inl ⟨dV st.ds, Sum.inr (S k), .inl (s3.gh _ _ h6), rfl, hv⟩, _, rfl, b, CSt K, dx2, _, _, rfl, s3.gh _ _ e1, C0, noat_Step_depths T, e2.d, _, rfl, d2, _, rfl, .inl ⟨dV st2.ds, Sum.inr (S k2), .inl (s3.gh _ _ e6), rfl, hv2⟩, _, _, rfl, ?_⟩
    rw [mx2_int]
    refine ⟨_, rfl, _, rfl, D2, _, rfl, .inl ⟨_, Sum.inr (S k), hM3, rfl, ?_, rfl⟩, _, _, rfl, s3.loc fD2 gD2, ?_, ?_⟩
    · rw [dV_len, List.length_map]
      have := msl (fun p => !unP st st2 p) j
      omega
    · rw [upd_ne nDD, hL3]
      show _ = some (HO.lst (sV (((((st.cs.zip st2.cs).take (j + 1)).filter (unP st st2))).map (·.1))))
      rw [filter_takeP mz, if_neg (by rw [no]; exact Bool.false_ne_true), List.append_nil]
    · have hno : k ∉ (unDs st st2 ((st.cs.zip st2.cs).take j)).map (·.1) := by
        rw [unDs_keys]
        refine fun z => nodup_take oks.nd mk ?_
        obtain ⟨p, hp, rfl⟩ := List.mem_map.mp z
        have : p.1 ∈ ((st.cs.zip st2.cs).take j).map (·.1) := List.mem_map.mpr ⟨p, (List.mem_filter.mp hp).1, rfl⟩
        rw [List.map_take, hzl] at this
        exact this
      rw [upd_same, dV_put hno]
      show _ = some (HO.dK (dV (((((st.cs.zip st2.cs).take (j + 1)).filter (fun p => !unP st st2 p))).map fun p => (p.1, mx2 (dep st p.1) (dep st2 p.2)))))
      rw [filter_takeP mz, if_pos (by rw [no]; rfl), List.map_append]
      rfl
  rintro σ H3 ⟨o4, o5, rfl, s3, hL, hM⟩
  rw [lx, ← lz, List.take_length] at hL hM
  refine ⟨_, rfl, _, rfl, by show 2 ≤ sizeLine; decide, fun t ht => ?_⟩
  have s4 : Step none G H (upd G t (.tup [.ref a, .ref b])) (upd H3 t (.tup [.ref a, .ref b])) := s3.new_ ht
  have gt : upd G t (.tup [.ref a, .ref b]) t = some (.tup [.ref a, .ref b]) := upd_same
  have k4 : Same H3 (upd H3 t (.tup [.ref a, .ref b])) := Same.new (Same.refl H3) ht
  generalize upd G t (.tup [.ref a, .ref b]) = G4 at *
  generalize upd H3 t (.tup [.ref a, .ref b]) = H4 at *
  refine ⟨_, rfl, a, CSt K, dx, _, _, rfl, s4.same _ _ (hG _ _ h1), C0, noat_Step_columns T, h2.c, _, rfl, _, rfl, fun x dx' hx hdx ne => ?_⟩
  have D0 := dfl_ T H4
  have dl := msl (fun p => !unP st st2 p) (st.cs.zip st2.cs).length
  rw [List.take_length] at dl
  have dn := dsn (st.cs.zip st2.cs).length
  rw [List.take_length] at dn
  exact mkS (st := ⟨kUnion, st.cs, _, _⟩) s4.gh gt (.inl (SqL.of (s4.gh _ _ (s4.gg _ _ h4)))) (SqL.of (k4 _ _ hL)) (k4 _ _ hM) dn (by rw [List.length_map]; omega) D0.n D0.p D0.s (fun G' H' s9 at1 hx0 => q G' H' x (s4.trans s9) at1 (s4.free hx0)) hx hdx ne
theorem a_add (T : Tx K mg) : C8.Met P w K mg base 4 (CSt K) "__add__" (spMUnion K (CSt K)) [] := by
  obtain ⟨fd, RO, F⟩ := o_add (P := P) (w := w) (base := base) T
  exact ⟨_, fd, _, _, cls_Step_ T, meth_Step_add T, RO, F.bindsN fun _ _ _ _ _ _ us hl => match us, hl with | [_, _], _ => rfl, .nil⟩
end Pf
namespace Bs
open PySem PySem.Spec PyProof.Rows L2
variable {P : Program} {w : World} {K : PySem.W.Frag} {mg : Str → Option Value} {base : Heap}
theorem cutV_map (ns : List Int) (lo hi : Option Int) : ∃ ms : List Int, cutV (ns.map V.int) lo hi = ms.map V.int ∧ ms.length ≤ ns.length ∧ (∀ h : Nat, lo = none → hi = some (h : Int) → ms.length ≤ h) := by
  refine ⟨(ns.drop (HT.sIx ns.length 0 lo)).take (HT.sIx ns.length ns.length hi - HT.sIx ns.length 0 lo), ?_, ?_, fun h e1 e2 => ?_⟩
  · unfold cutV
    rw [List.length_map, List.map_take, List.map_drop]
  · rw [List.length_take, List.length_drop]; omega
  · subst e1 e2
    rw [HT.sIx_nat, List.length_take]
    omega
theorem dp_ints {H : Hp} : ∀ ns : List Int, DpAll K H (ns.map V.int) (ns.map PyData.int)
  | [] => .nil
  | n :: r => .cons (.int n) (dp_ints r)
theorem lay_ints : ∀ ns : List Int, PyData.canLayAll0 (ns.map PyData.int) = true ∧ PyData.depthAll (ns.map PyData.int) ≤ 1
  | [] => ⟨by simp [PyData.canLayAll0], by simp [PyData.depthAll]⟩
  | n :: r => by
    obtain ⟨h1, h2⟩ := lay_ints r
    refine ⟨by simp [PyData.canLayAll0, PyData.canLay0, h1], ?_⟩
    simp only [List.map_cons, PyData.depthAll, PyData.depth]
    omega
theorem shaped_ints (ns : List Int) : SeqAt.shaped (.list (ns.map PyData.int)) = true := by
  obtain ⟨h1, h2⟩ := lay_ints ns
  unfold SeqAt.shaped
  rw [PyData.canLay0, h1, PyData.depth, Bool.true_and, decide_eq_true_eq]
  omega
theorem eqv_nil (ns : List Int) : (PyData.list (ns.map PyData.int)).eqv (.list []) = ns.isEmpty := by
  cases ns with
  | nil => simp [PyData.eqv, PyData.eqvAll]
  | cons n r => simp [PyData.eqv, PyData.eqvAll]
/-! ### a pen that is a list: the cells, the place of the next one, what is left of a great one -/
abbrev pen3 (c : Addr) (i l : Int) : List V := [.ref c, .int i, .int l]
structure Pq (G H : Hp) (p : Addr) (n : Nat) : Prop where
  gh : Same G H
  out : G p = none
  pen : ∃ (c : Addr) (ns : List Int) (i l : Int), H p = some (.lst (pen3 c i l)) ∧ G c = some (.lst (ns.map V.int)) ∧ ns.length ≤ 63 ∧ 0 ≤ i ∧ i ≤ n ∧ 0 ≤ l
theorem Pq.there {G H : Hp} {p : Addr} {n : Nat} (h : Pq G H p n) : H p ≠ none := by
  obtain ⟨_, _, _, _, e, _⟩ := h.pen
  rw [e]
  exact fun z => by cases z
theorem Pq.mono {G H : Hp} {p : Addr} {n m : Nat} (h : Pq G H p n) (l : n ≤ m) : Pq G H p m := by
  obtain ⟨c, ns, i, q, h1, h2, h3, h4, h5, h6⟩ := h.pen
  exact ⟨h.gh, h.out, c, ns, i, q, h1, h2, h3, h4, by omega, h6⟩
theorem Pq.step {G H G1 H1 : Hp} {p : Addr} {n : Nat} (h : Pq G H p n) (s : Step none G H G1 H1) : Pq G1 H1 p n := by
  obtain ⟨c, ns, i, q, h1, h2, h3, h4, h5, h6⟩ := h.pen
  exact ⟨s.gh, s.out h.out h.there, c, ns, i, q, s.same _ _ h1, s.gg _ _ h2, h3, h4, h5, h6⟩
theorem Pq.went {G H G1 H1 : Hp} {p : Addr} {n : Nat} (h : Pq G H p n) (s : Step none G H G1 H1) : Step (some p) G H G1 H1 ∧ Pq G1 H1 p n := ⟨s.some_, h.step s⟩
theorem Pq.new_ {G H : Hp} {p q : Addr} {n : Nat} {o : HO} (h : Pq G H p n) (hq : H q = none) : Step (some p) G H (upd G q o) (upd H q o) ∧ Pq (upd G q o) (upd H q o) p n := h.went ((Step.refl h.gh).new_ hq)
/-- a new thing of one's own -/
theorem Pq.loc {G H : Hp} {p q : Addr} {n : Nat} {o : HO} (h : Pq G H p n) (hq : H q = none) : Step (some p) G H G (upd H q o) ∧ Pq G (upd H q o) p n := h.went ((Step.refl h.gh).loc hq (h.gh.free hq))
theorem Pq.local_ {G H : Hp} {p l : Addr} {n : Nat} {o : HO} (h : Pq G H p n) (hl : G l = none) (ne : l ≠ p) : Pq G (upd H l o) p n := by
  obtain ⟨c, ns, i, q, h1, h2, h3, h4, h5, h6⟩ := h.pen
  exact ⟨Same.off h.gh hl, h.out, c, ns, i, q, by rw [upd_ne ne.symm]; exact h1, h2, h3, h4, h5, h6⟩
theorem Pq.put {G H : Hp} {p c : Addr} {n : Nat} {ns : List Int} {i l : Int} (gh : Same G H) (out : G p = none) (hp : H p ≠ none) (hc : G c = some (.lst (ns.map V.int))) (hl : ns.length ≤ 63) (h0 : 0 ≤ i) (h1 : i ≤ n) (h2 : 0 ≤ l) :
    Step (some p) G H G (upd H p (.lst (pen3 c i l))) ∧ Pq G (upd H p (.lst (pen3 c i l))) p n := by
  have g : Same G (upd H p (.lst (pen3 c i l))) := Same.off gh out
  refine ⟨⟨Same.refl G, g, fun b hb => .inl hb, fun b o e n => ?_, fun b e h => ?_⟩, g, out, c, ns, i, l, upd_same, hc, hl, h0, h1, h2⟩
  · rw [upd_ne (fun z => n (by rw [z]))]; exact e
  · rw [Option.some.inj e, upd_same]; exact fun z => by cases z
theorem mul_bd {a b A B : Int} (h1 : 0 ≤ a) (h2 : a ≤ A) (h3 : 0 ≤ b) (h4 : b ≤ B) : 0 ≤ a * b ∧ a * b ≤ A * B :=
  ⟨Int.mul_nonneg h1 h3, Int.mul_le_mul h2 h4 h3 (Int.le_trans h1 h2)⟩
def spPenQ (K : PySem.W.Frag) : Sp := fun vs H Q _ => ∃ (a : Addr) (ns : List Int), vs = [.ref a] ∧ SqL K H a (ns.map V.int) ∧ ∀ (p : Addr) (G' H' : Hp), Same H H' → Pq G' H' p 0 → Q (.ref p) H'
def spDrQ : Sp := fun vs H Q _ => ∃ (G : Hp) (p : Addr) (n : Nat) (m : Int), vs = [.ref p, .int m] ∧ Pq G H p n ∧ n ≤ 1000000 ∧ 0 < m ∧ m < 1000000 ∧
  ∀ (d : Int) (G' H' : Hp), Step (some p) G H G' H' → Pq G' H' p (n + 1) → 0 ≤ d → d < m → Q (.int d) H'
end Bs
namespace Pf
open PySem PySem.Spec PyProof.Rows L2 Bs
variable {P : Program} {w : World} {K : PySem.W.Frag} {mg : Str → Option Value} {base : Heap}
abbrev N_Lpen : List Str := ["_law_script"]
theorem sc_Lpen : FnScope N_Lpen ["_law_script"] (defScope s_Lpen) := ⟨rfl, rfl, rfl, by decide +kernel, rfl, by decide +kernel, by decide +kernel⟩
theorem c_Lpen (T : Tx K mg) : C8.Cal P w K mg base 1 "_law_pen" (spPenQ K) [] := by
  obtain ⟨fd, F⟩ := f_Lpen T
  refine mkCal F (g_law_pen T) (F.bindsN fun _ _ _ _ _ _ us hl => match us, hl with | [_], _ => rfl) .nil sc_Lpen (fun vs H Q E h => ?_) (fun cdv A outer s H vs Q E hr h => ?_)
  · obtain ⟨a, ns, rfl, _⟩ := h
    rfl
  obtain ⟨a, ns, rfl, hS, q⟩ := h
  refine ⟨_, (pss_one (ps_ret (pe_lst (pa_cons (pe_callTy call_list_of (by rfl) (z_list T) boot_list (pa_cons (pe_slice sl_list (pv 0) po_none (po_some pe_int)) pa_nil)) (pa_cons pe_int (pa_cons pe_int pa_nil)))))), ?_⟩
  refine ⟨_, rfl, _, rfl, a, _, rfl, hS, fun l hl => ?_⟩
  obtain ⟨ms, e1, _, e3⟩ := cutV_map ns none (some (63 : Nat))
  have k1 : Same H (upd H l (.lst (cutV (ns.map V.int) none (some 63)))) := Same.new (Same.refl H) hl
  have hlv : upd H l (.lst (cutV (ns.map V.int) none (some 63))) l = some (.lst (ms.map V.int)) := by rw [upd_same]; exact congrArg (fun z => some (HO.lst z)) e1
  generalize upd H l (.lst (cutV (ns.map V.int) none (some 63))) = H1 at *
  refine ⟨l, _, rfl, .inl (SqL.of hlv), fun c hc => ⟨by show 3 ≤ sizeLine; decide, fun p hp => ?_⟩⟩
  have npc : p ≠ c := fun z => by rw [z, upd_same] at hp; cases hp
  refine q p (upd (fun _ => none) c (.lst (ms.map V.int))) _ ((k1.trans (Same.new (Same.refl H1) hc)).trans (Same.new (Same.refl _) hp)) ⟨fun b o eb => ?_, by rw [upd_ne npc], c, ms, 0, 0, upd_same, upd_same, e3 63 rfl rfl, by decide, by decide, by decide⟩
  by_cases cb : b = c
  · subst cb
    rw [upd_same] at eb
    rw [upd_ne npc.symm, upd_same, ← eb]
  · rw [upd_ne cb] at eb; cases eb
abbrev N_Ldraw : List Str := ["_law_pen_here", "_law_many", "_law_at", "_law_cell", "_law_mixed", "_law_digit", "_law_great"]
theorem sc_Ldraw : FnScope N_Ldraw ["_law_pen_here", "_law_many"] (defScope s_Ldraw) := ⟨rfl, rfl, rfl, by decide +kernel, rfl, by decide +kernel, by decide +kernel⟩
theorem c_Ldraw (T : Tx K mg) : C8.Cal P w K mg base 1 "_law_draw" spDrQ [] := by
  obtain ⟨fd, F⟩ := f_Ldraw T
  refine mkCal F (g_law_draw T) (F.bindsN fun _ _ _ _ _ _ us hl => match us, hl with | [_, _], _ => rfl) .nil sc_Ldraw (fun vs H Q E h => ?_) (fun cdv A outer s H vs Q E hr h => ?_)
  · obtain ⟨G, p, n, m, rfl, _⟩ := h
    rfl
  obtain ⟨G, p, n, m, rfl, hP, hn, hm0, hm1, q⟩ := h
  obtain ⟨c, ns, i, l, hp, hc, hl, hi0, hin, hl0⟩ := id hP.pen
  have hu := hu_of hr
  refine ⟨_, (pss_cons (ps_if (pt_cmpR op_gt (pe_ix (ix_listK (K := K) rfl) (pv 0) pe_int (fun _ _ => rfl)) pe_int (nomark _)) (pss_cons (ps_set (i := 5) sc_Ldraw.nd rfl (Or.inl rfl) (pe_op op_modN (pe_callTy call_int1 (by rfl) (z_int T) boot_int (pa_cons (pe_ix (ix_listK (K := K) rfl) (pv 0) pe_int (fun _ _ => rfl)) pa_nil)) (pv 1)))
    (pss_cons (ps_asg (pe_op op_fdivN (pe_callTy call_int1 (by rfl) (z_int T) boot_int (pa_cons (pe_ix (ix_listK (K := K) rfl) (pv 0) pe_int (fun _ _ => rfl)) pa_nil)) (pv 1)) (pg_sub (pv 0) pe_int set_list))
    (pss_one (ps_ret (pv 5))))) pss_nil)
    (pss_cons (ps_set (i := 2) sc_Ldraw.nd rfl (Or.inl rfl) (pe_ix (ix_listK (K := K) rfl) (pv 0) pe_int (fun _ _ => rfl)))
    (pss_cons (ps_asg (pe_op op_add (pv 2) pe_int) (pg_sub (pv 0) pe_int set_list))
    (pss_cons (ps_set (i := 3) sc_Ldraw.nd rfl (Or.inl rfl) (pe_op op_add (pe_op op_mul pe_int (pv 2)) pe_int))
    (C8.pss_cut (ps_if (pt_cmpR (op_neD hr.units) (pe_ix (ix_listK (K := K) rfl) (pv 0) pe_int (fun _ _ => rfl)) (pe_lst pa_nil) (nomark _)) (pss_one (ps_set (i := 3) sc_Ldraw.nd rfl (Or.inl rfl) (pe_ix (ix_listK (K := K) rfl) (pe_ix (ix_listK (K := K) rfl) (pv 0) pe_int (fun _ _ => rfl)) (pe_op op_modN (pe_callTy call_int1 (by rfl) (z_int T) boot_int (pa_cons (pv 2) pa_nil)) (pe_callB (call_len_seqK (K := K) rfl) (by rfl) (z_len T) boot_len (pa_cons (pe_ix (ix_listK (K := K) rfl) (pv 0) pe_int (fun _ _ => rfl)) pa_nil))) (fun _ _ => rfl)))) pss_nil)
    (C8.pss_cut (ps_if (PW.pt (pw_and (pt_cmpR op_lt (pv 2) (pe_callB (call_len_seqK (K := K) rfl) (by rfl) (z_len T) boot_len (pa_cons (pe_ix (ix_listK (K := K) rfl) (pv 0) pe_int (fun _ _ => rfl)) pa_nil)) (nomark _)) (pw_and1 (pt_cmpR op_ge (pe_callB call_abs (by rfl) (z_abs T) boot_abs (pa_cons (pv 3) pa_nil)) (pe_op op_pow pe_int pe_int) (nomark _))))) (pss_cons (ps_set (i := 6) sc_Ldraw.nd rfl (Or.inl rfl) (pe_op op_add (pe_op op_mul pe_int (pe_callB call_abs (by rfl) (z_abs T) boot_abs (pa_cons (pv 3) pa_nil))) (pe_callTy call_int1 (by rfl) (z_int T) boot_int (pa_cons (pe_cmpR op_lt (pv 3) pe_int (nomark _)) pa_nil))))
    (pss_cons (ps_asg (pe_op op_fdivN (pe_callTy call_int1 (by rfl) (z_int T) boot_int (pa_cons (pv 6) pa_nil)) (pv 1)) (pg_sub (pv 0) pe_int set_list))
    (pss_one (ps_ret (pe_op op_modN (pe_callTy call_int1 (by rfl) (z_int T) boot_int (pa_cons (pv 6) pa_nil)) (pv 1)))))) pss_nil)
    (pss_cons (ps_set (i := 4) sc_Ldraw.nd rfl (Or.inl rfl) (pe_op op_mod (pe_callTy call_int1 (by rfl) (z_int T) boot_int (pa_cons (pe_op op_pow (pe_op op_add (pe_op op_add (pe_op op_mod (pe_callTy call_int1 (by rfl) (z_int T) boot_int (pa_cons (pv 3) pa_nil)) pe_int) (pe_op op_mul pe_int (pv 2))) pe_int) pe_int) pa_nil)) pe_int))
    (pss_cons (ps_set (i := 4) sc_Ldraw.nd rfl (Or.inl rfl) (pe_op op_mod (pe_callTy call_int1 (by rfl) (z_int T) boot_int (pa_cons (pe_op op_pow (pe_op op_add (pe_op op_add (pe_op op_mul (pv 4) (pe_op op_add (pv 2) pe_int)) (pe_op op_mul (pe_op op_mul pe_int (pv 2)) (pv 2))) pe_int) pe_int) pa_nil)) pe_int))
    (pss_one (ps_ret (pe_op op_modN (pe_callTy call_int1 (by rfl) (z_int T) boot_int (pa_cons (pe_op op_fdiv (pv 4) pe_int) pa_nil)) (pv 1)))))))))))), ?_⟩
  have fm : ∀ x : Int, 0 ≤ Int.fmod x m ∧ Int.fmod x m < m := fun x => ⟨Int.fmod_nonneg_of_pos x hm0, Int.fmod_lt_of_pos x hm0⟩
  have e0 : ∀ {j k : Int}, atI (pen3 c j k) 0 = some (.ref c) := fun {j k} => atI_nat (j := 0) rfl
  have e1 : ∀ {j k : Int}, atI (pen3 c j k) 1 = some (.int j) := fun {j k} => atI_nat (j := 1) rfl
  have e2 : ∀ {j k : Int}, atI (pen3 c j k) 2 = some (.int k) := fun {j k} => atI_nat (j := 2) rfl
  refine ⟨_, rfl, p, _, 2, _, rfl, rfl, SqL.of hp, e2, _, _, rfl, rfl, _, rfl, ?_⟩
  refine ite2 (fun c1 => ?_) (fun c1 => ?_)
  · refine ⟨_, rfl, p, _, 2, _, rfl, rfl, SqL.of hp, e2, .inl ⟨_, rfl, _, rfl, _, _, rfl, rfl, by omega, ?_⟩⟩
    refine ⟨_, rfl, p, _, 2, _, rfl, rfl, SqL.of hp, e2, .inl ⟨_, rfl, _, rfl, _, _, rfl, rfl, ⟨by omega, by omega⟩, ?_⟩⟩
    refine ⟨_, rfl, p, _, 2, 2, rfl, rfl, hp, rfl, _, rfl, ?_⟩
    obtain ⟨s3, P3⟩ := Pq.put (n := n + 1) (l := Int.fdiv l m) hP.gh hP.out hP.there hc hl hi0 (by omega) (by rw [Int.fdiv_eq_ediv_of_nonneg _ (by omega)]; exact Int.ediv_nonneg hl0 (by omega))
    exact q _ _ _ s3 P3 (fm _).1 (fm _).2
  · refine ⟨_, rfl, p, _, 1, _, rfl, rfl, SqL.of hp, e1, ?_⟩
    refine ⟨_, rfl, _, _, rfl, rfl, _, rfl, p, _, 1, 1, rfl, rfl, hp, rfl, ?_⟩
    obtain ⟨sA, PA⟩ := Pq.put (n := n + 1) (i := i + 1) (l := l) hP.gh hP.out hP.there hc hl (by omega) (by omega) hl0
    have hpA : upd H p (.lst (pen3 c (i + 1) l)) p = some (.lst (pen3 c (i + 1) l)) := upd_same
    generalize eS : (pen3 c i l).set 1 (V.int (i + 1)) = xs1
    obtain rfl : xs1 = pen3 c (i + 1) l := eS.symm.trans rfl
    clear eS
    generalize upd H p (.lst (pen3 c (i + 1) l)) = HA at *
    refine ⟨_, rfl, _, _, rfl, rfl, .inl ⟨by decide, by decide⟩, _, _, rfl, rfl, ?_⟩
    refine ⟨fun σ' H' => ∃ c0 : Int, σ' = [some (.ref p), some (.int m), some (.int i), some (.int c0), none, none, none] ∧ Step (some p) G H G H' ∧ Pq G H' p (n + 1) ∧ H' p = some (.lst (pen3 c (i + 1) l)), ?_, ?_⟩
    · refine ⟨_, rfl, p, _, 0, _, rfl, rfl, SqL.of hpA, e0, Nat.zero_le _, fun l0 hl0 => ?_⟩
      obtain ⟨s0, P0⟩ := PA.loc (o := .lst []) hl0
      have hp0 : upd HA l0 (.lst []) p = some (.lst (pen3 c (i + 1) l)) := by rw [upd_ne (ne_of_none hpA hl0)]; exact hpA
      have hn0 : upd HA l0 (.lst []) l0 = some (.lst []) := upd_same
      generalize upd HA l0 (.lst []) = H0 at *
      refine ⟨_, _, .lst (SqL.of (P0.gh _ _ hc)) (dp_ints ns), .lst (SqL.of hn0) .nil, shaped_ints ns, shaped_ints [], _, rfl, ?_⟩
      rw [eqv_nil]
      refine ite2 (fun c2 => ?_) (fun c2 => ⟨_, rfl, sA.trans s0, P0, hp0⟩)
      have hne : 0 < ns.length := by
        cases ns with
        | nil => simp at c2
        | cons n t => simp
      have hlen : (ns.map V.int).length = ns.length := List.length_map _
      have c2' : (0 : Int) < ((ns.map V.int).length : Nat) := by omega
      have hi1 := Int.fmod_nonneg_of_pos i c2'
      have hi2 := Int.fmod_lt_of_pos i c2'
      obtain ⟨v, hv, _⟩ := atI_int (ns := ns) hi1 (by omega)
      refine ⟨_, rfl, p, _, 0, _, rfl, rfl, SqL.of hp0, e0, _, rfl, .inl ⟨_, rfl, _, rfl, p, _, 0, _, rfl, rfl, SqL.of hp0, e0, c, _, rfl, .inl (SqL.of (P0.gh _ _ hc)), _, _, rfl, rfl, by omega, c, _, _, _, rfl, rfl, SqL.of (P0.gh _ _ hc), hv, ?_⟩⟩
      exact ⟨v, rfl, sA.trans s0, P0, hp0⟩
    rintro σ' H' ⟨c0, rfl, s1, P1, hp1⟩
    have hc1 := P1.gh _ _ hc
    refine ⟨fun σ' H'' => σ' = [some (.ref p), some (.int m), some (.int i), some (.int c0), none, none, none] ∧ H'' = H', ?_, ?_⟩
    · refine ⟨_, rfl, _, rfl, p, _, 0, _, rfl, rfl, SqL.of hp1, e0, c, _, rfl, .inl (SqL.of hc1), _, _, rfl, rfl, _, rfl, ?_⟩
      refine ite2 (fun _ => ?_) (fun _ => iteF ⟨rfl, rfl⟩)
      refine ⟨_, rfl, _, rfl, _, _, rfl, rfl, ⟨by decide, by decide, by decide⟩, _, _, rfl, rfl, _, rfl, ?_⟩
      refine ite2 (fun _ => ?_) (fun _ => ⟨rfl, rfl⟩)
      have hab : (0 : Int) ≤ (if c0 < 0 then -c0 else c0) := by split <;> omega
      refine ⟨_, rfl, _, rfl, _, _, rfl, rfl, .inl ⟨by decide, by decide⟩, _, rfl, _, _, rfl, rfl, .inr ⟨_, rfl, _, _, rfl, rfl, ?_⟩⟩
      have hg : (0 : Int) ≤ 2 * (if c0 < 0 then -c0 else c0) + (if decide (c0 < 0) = true then 1 else 0) := by split <;> omega
      dsimp only
      generalize (2 * (if c0 < 0 then -c0 else c0) + (if decide (c0 < 0) = true then 1 else 0) : Int) = g at hg
      refine ⟨_, rfl, .inl ⟨_, rfl, _, rfl, _, _, rfl, rfl, ⟨by omega, by omega⟩, _, rfl, p, _, 2, 2, rfl, rfl, hp1, rfl, ?_⟩⟩
      refine ⟨_, rfl, .inl ⟨_, rfl, _, rfl, _, _, rfl, rfl, by omega, ?_⟩⟩
      obtain ⟨s3, P3⟩ := Pq.put (n := n + 1) (i := i + 1) (l := Int.fdiv g m) P1.gh P1.out P1.there hc hl (by omega) (by omega) (by rw [Int.fdiv_eq_ediv_of_nonneg _ (by omega)]; exact Int.ediv_nonneg hg (by omega))
      exact q _ _ _ (s1.trans s3) P3 (fm _).1 (fm _).2
    · rintro σ' H'' ⟨rfl, rfl⟩
      have r1 := Int.emod_nonneg c0 (show (2147483549 : Int) ≠ 0 by decide)
      have r2 := Int.emod_lt_of_pos c0 (show (0 : Int) < 2147483549 by decide)
      refine ⟨_, rfl, .inl ⟨_, rfl, _, _, rfl, rfl, (by show (0 : Int) < 2147483549; decide), _, rfl, _, _, rfl, rfl, .inl ⟨by decide, by decide⟩, _, _, rfl, rfl, _, _, rfl, rfl, _, _, rfl, rfl, ⟨by decide, by decide, by omega⟩, .inl ⟨_, rfl, _, _, rfl, rfl, (by show (0 : Int) < 2147483629; decide), ?_⟩⟩⟩
      dsimp only
      generalize el : (c0 % 2147483549 + 7103 * i + 421) ^ (5 : Int).toNat % 2147483629 = lw
      have l1 : 0 ≤ lw := by rw [← el]; exact Int.emod_nonneg _ (by decide)
      have l2 : lw < 2147483629 := by rw [← el]; exact Int.emod_lt_of_pos _ (by decide)
      clear el
      obtain ⟨m1, m2⟩ := mul_bd l1 (show lw ≤ 2147483629 by omega) (show 0 ≤ i + 30013 by omega) (show i + 30013 ≤ 1030013 by omega)
      obtain ⟨m3, m4⟩ := mul_bd (show (0 : Int) ≤ 60029 * i by omega) (show 60029 * i ≤ 60029000000 by omega) hi0 (show i ≤ 1000000 by omega)
      refine ⟨_, rfl, _, rfl, _, _, rfl, rfl, _, _, rfl, rfl, .inr ⟨by omega, by omega⟩, _, rfl, _, _, rfl, rfl, .inl ⟨by decide, by decide⟩, _, rfl, _, _, rfl, rfl, .inr ⟨by omega, by omega⟩, _, _, rfl, rfl, _, _, rfl, rfl, _, _, rfl, rfl, ⟨by decide, by decide, by omega⟩, .inl ⟨_, rfl, _, _, rfl, rfl, (by show (0 : Int) < 2147483587; decide), ?_⟩⟩
      dsimp only
      generalize eh : (lw * (i + 30013) + 60029 * i * i + 31) ^ (3 : Int).toNat % 2147483587 = hg
      clear eh
      refine ⟨_, rfl, _, _, rfl, rfl, ⟨by decide, by decide⟩, .inl ⟨_, rfl, _, rfl, _, _, rfl, rfl, by omega, ?_⟩⟩
      exact q _ _ _ s1 P1 (fm _).1 (fm _).2
end Pf
namespace Bs
open PySem PySem.Spec PyProof.Rows L2 SX
variable {P : Program} {w : World} {K : PySem.W.Frag} {mg : Str → Option Value} {base : Heap}
theorem Pq.frz {G H : Hp} {p q : Addr} {n : Nat} {o : HO} (h : Pq G H p n) (hq : H q = some o) (gq : G q = none) (ne : q ≠ p) : Pq (upd G q o) H p n := by
  obtain ⟨c, ms, i, l, h1, h2, h3, h4, h5, h6⟩ := h.pen
  refine ⟨fun b u e => ?_, by rw [upd_ne ne.symm]; exact h.out, c, ms, i, l, h1, by rw [upd_ne (fun z => by rw [z, gq] at h2; cases h2)]; exact h2, h3, h4, h5, h6⟩
  by_cases cb : b = q
  · subst cb; rw [upd_same] at e; rw [hq]; exact e
  · rw [upd_ne cb] at e; exact h.gh b u e
theorem atI_mem {α : Type} {xs : List α} {d : Int} (h0 : 0 ≤ d) (h1 : d < (xs.length : Nat)) : ∃ v ∈ xs, atI xs d = some v := by
  obtain ⟨n, rfl⟩ := Int.eq_ofNat_of_zero_le h0
  have hn : n < xs.length := by omega
  exact ⟨xs[n], List.getElem_mem hn, atI_nat (List.getElem?_eq_getElem hn)⟩
def spPick : Sp := fun vs H Q _ => ∃ (G : Hp) (p l : Addr) (n : Nat) (xs : List V), vs = [.ref p, .ref l] ∧ Pq G H p n ∧ n ≤ 900000 ∧ H l = some (.lst xs) ∧ l ≠ p ∧ 0 < xs.length ∧ xs.length ≤ 1000 ∧
  ∀ (v : V) (G' H' : Hp), v ∈ xs → Step (some p) G H G' H' → Pq G' H' p (n + 1) → Q v H'
def spSomeK : Sp := fun vs H Q _ => ∃ (G : Hp) (p l : Addr) (n : Nat) (xs : List (List Nat)) (hi : Int), vs = [.ref p, .ref l, .int hi] ∧ Pq G H p n ∧ n ≤ 900000 ∧ H l = some (.lst (sV xs)) ∧ xs.Nodup ∧ 1 ≤ xs.length ∧ xs.length ≤ 60 ∧ 1 ≤ hi ∧ hi ≤ 8 ∧
  ∀ (l' : Addr) (ys : List (List Nat)) (G' H' : Hp), Step (some p) G H G' H' → Pq G' H' p (n + 10) → G' l' = some (.lst (sV ys)) → Sub ys xs → 1 ≤ ys.length → (ys.length : Int) ≤ hi → Q (.ref l') H'
theorem erase_perm {α : Type} : ∀ {xs : List α} {k : Nat} {y : α}, xs[k]? = some y → (y :: xs.eraseIdx k).Perm xs
  | [], _, _, h => by simp at h
  | x :: r, 0, y, h => by
    cases (Option.some.inj (show some x = some y from h))
    exact List.Perm.refl _
  | x :: r, k + 1, y, h => (List.Perm.swap x y _).trans ((erase_perm (xs := r) (k := k) h).cons x)
theorem er_map {α β : Type} (f : α → β) : ∀ (xs : List α) (k : Nat), (xs.map f).eraseIdx k = (xs.eraseIdx k).map f
  | [], _ => rfl
  | _ :: _, 0 => rfl
  | x :: r, k + 1 => by
    show f x :: (r.map f).eraseIdx k = f x :: (r.eraseIdx k).map f
    rw [er_map f r k]
theorem sV_erase (xs : List (List Nat)) (k : Nat) : (sV xs).eraseIdx k = sV (xs.eraseIdx k) := by
  show ((xs.map S).map V.str).eraseIdx k = ((xs.eraseIdx k).map S).map V.str
  rw [er_map, er_map]
theorem seqIx {d : Int} {n : Nat} (h0 : 0 ≤ d) (h1 : d < (n : Nat)) : seqIndex? d n = some d.toNat := by
  obtain ⟨k, rfl⟩ := Int.eq_ofNat_of_zero_le h0
  unfold seqIndex?
  simp
  omega
end Bs
namespace Pf
open PySem PySem.Spec PyProof.Rows L2 Bs SX
variable {P : Program} {w : World} {K : PySem.W.Frag} {mg : Str → Option Value} {base : Heap}
abbrev N_Lpick : List Str := ["_law_pen_here", "_law_some_here"]
theorem sc_Lpick : FnScope N_Lpick ["_law_pen_here", "_law_some_here"] (defScope s_Lpick) := ⟨rfl, rfl, rfl, by decide +kernel, rfl, by decide +kernel, by decide +kernel⟩
theorem c_Lpick (T : Tx K mg) : C8.Cal P w K mg base 2 "_law_pick" spPick [] := by
  obtain ⟨fd, F⟩ := f_Lpick T
  have c_Ldraw := c_Ldraw (P := P) (w := w) (base := base) T
  refine mkCal F (g_law_pick T) (F.bindsN fun _ _ _ _ _ _ us hl => match us, hl with | [_, _], _ => rfl) .nil sc_Lpick (fun vs H Q E h => ?_) (fun cdv A outer s H vs Q E hr h => ?_)
  · obtain ⟨G, p, l, n, xs, rfl, _⟩ := h
    rfl
  obtain ⟨G, p, l, n, xs, rfl, hP, hn, hl, ne, l0, l1, q⟩ := h
  refine ⟨_, (pss_one (ps_ret (pe_ix (ix_listK (K := K) rfl) (pv 1) (C8.pe_c c_Ldraw hr (by first | decide | omega) rfl (pa_cons (pv 0) (pa_cons (pe_callB (call_len_seqK (K := K) rfl) (by rfl) (z_len T) boot_len (pa_cons (pv 1) pa_nil)) pa_nil))) (fun _ _ => rfl)))), ?_⟩
  refine ⟨_, rfl, _, rfl, _, rfl, l, xs, rfl, .inl (SqL.of hl), G, p, n, _, rfl, hP, by omega, by omega, by omega, fun d G1 H1 s1 P1 a1 b1 => ?_⟩
  obtain ⟨v, hv, e⟩ := atI_mem a1 b1
  exact ⟨l, xs, d, v, rfl, rfl, SqL.of (s1.kpc _ _ hl ne), e, q v G1 H1 hv s1 P1⟩
abbrev N_Lsome : List Str := ["_law_pen_here", "_law_names", "_law_most", "_law_turn", "_law_left", "_law_found"]
theorem sc_Lsome : FnScope N_Lsome ["_law_pen_here", "_law_names", "_law_most"] (defScope s_Lsome) := ⟨rfl, rfl, rfl, by decide +kernel, rfl, by decide +kernel, by decide +kernel⟩
theorem c_Lsome (T : Tx K mg) : C8.Cal P w K mg base 2 "_law_some" spSomeK [] := by
  obtain ⟨fd, F⟩ := f_Lsome T
  have c_Ldraw := c_Ldraw (P := P) (w := w) (base := base) T
  refine mkCal F (g_law_some T) (F.bindsN fun _ _ _ _ _ _ us hl => match us, hl with | [_, _, _], _ => rfl) .nil sc_Lsome (fun vs H Q E h => ?_) (fun cdv A outer s H vs Q E hr h => ?_)
  · obtain ⟨G, p, l, n, xs, hi, rfl, _⟩ := h
    rfl
  obtain ⟨G, p, l, n, xs, hi, rfl, hP, hn, hl, nd, l1, l60, lo1, h8, q⟩ := h
  have sl : sizeLine = 16777216 := rfl
  refine ⟨_, (pss_cons (ps_par (i := 4) (j := 5) rfl sc_Lsome.nd rfl rfl (by decide) rfl rfl (pa_cons (pe_callTy call_list_of (by rfl) (z_list T) boot_list (pa_cons (pv 1) pa_nil)) (pa_cons (pe_lst pa_nil) pa_nil)) rfl)
    (pss_cons (ps_for PassesOwn.never rfl (pi_range1 (by rfl) (z_range T) (pa_cons (pe_op op_add pe_int (C8.pe_c c_Ldraw hr (by first | decide | omega) rfl (pa_cons (pv 0) (pa_cons (pe_callB (call_min2 rfl) (by rfl) (z_min T) boot_min (pa_cons (pv 2) (pa_cons (pe_callB (call_len_seqK (K := K) rfl) (by rfl) (z_len T) boot_len (pa_cons (pv 1) pa_nil)) pa_nil))) pa_nil)))) pa_nil)) (pg_name (i := 3) sc_Lsome.nd rfl (Or.inl rfl)) (pss_one (ps_expr (pe_bm PySem.F.plainAttrs_list PySem.F.slot_list_append PySem.F.type_list_append mt_append (pv 5) (pa_cons (pe_bmK (K := K) rfl PySem.F.plainAttrs_list PySem.F.slot_list_pop PySem.F.type_list_pop mt_popAt (pv 4) (pa_cons (C8.pe_c c_Ldraw hr (by first | decide | omega) rfl (pa_cons (pv 0) (pa_cons (pe_callB (call_len_seqK (K := K) rfl) (by rfl) (z_len T) boot_len (pa_cons (pv 4) pa_nil)) pa_nil))) pa_nil)) pa_nil)))))
    (pss_one (ps_ret (pv 5))))), ?_⟩
  refine ⟨_, rfl, l, _, rfl, .inl (SqL.of hl), fun L hL => ?_⟩
  have nLp : L ≠ p := fun z => hP.there (by rw [← z]; exact hL)
  have nlL : l ≠ L := ne_of_none hl hL
  obtain ⟨s0, P0⟩ := hP.loc (o := .lst (sV xs)) hL
  have hl0 : upd H L (.lst (sV xs)) l = some (.lst (sV xs)) := by rw [upd_ne nlL]; exact hl
  have hL0 : upd H L (.lst (sV xs)) L = some (.lst (sV xs)) := upd_same
  have gL := hP.gh.free hL
  generalize upd H L (.lst (sV xs)) = H0 at *
  have hlen := sV_len xs
  refine ⟨by show 0 ≤ sizeLine; decide, fun D hD => ?_⟩
  have nDp : D ≠ p := fun z => P0.there (by rw [← z]; exact hD)
  have nLD : L ≠ D := ne_of_none hL0 hD
  have nlD : l ≠ D := ne_of_none hl0 hD
  have gD := P0.gh.free hD
  have hDH := s0.free hD
  obtain ⟨sb, Pb⟩ := P0.loc (o := .lst []) hD
  have s1 := s0.trans sb
  have hL1 : upd H0 D (.lst []) L = some (.lst (sV xs)) := by rw [upd_ne nLD]; exact hL0
  have hl1 : upd H0 D (.lst []) l = some (.lst (sV xs)) := by rw [upd_ne nlD]; exact hl0
  have hD1 : upd H0 D (.lst []) D = some (.lst []) := upd_same
  generalize upd H0 D (.lst []) = H1 at *
  have hmin : ∀ {a b : Int}, (if b < a then b else a) = min a b := fun {a b} => by split <;> omega
  refine ⟨_, _, rfl, ?_⟩
  have P1 : Pq G H1 p n := Pb
  refine ⟨_, rfl, _, rfl, _, rfl, l, _, rfl, .inl (SqL.of hl1), _, _, rfl, ?_⟩
  refine ⟨G, p, n, _, rfl, P1, by omega, ?_, ?_, fun d G2 H2 s2 P2 d0 d1 => ?_⟩
  · rw [hlen]; split <;> omega
  · rw [hlen]; split <;> omega
  rw [hlen] at d1
  have hd : 1 + d ≤ hi ∧ 1 + d ≤ (xs.length : Nat) := by split at d1 <;> omega
  clear d1
  have hL2 := s2.kpc _ _ hL1 nLp
  have hD2 := s2.kpc _ _ hD1 nDp
  have g2L := s2.out gL (by rw [hL1]; exact fun z => by cases z)
  have g2D := s2.out gD (by rw [hD1]; exact fun z => by cases z)
  have s02 := s1.trans s2
  have hLH := hL
  refine ⟨_, _, rfl, rfl, 1 + d, rfl, by omega, by omega, ?_⟩
  refine for_range (lo := 0) (n := (1 + d).toNat) (fun i σ H' => ∃ (v3 : Option V) (G' : Hp) (ys zs : List (List Nat)), σ = [some (.ref p), some (.ref l), some (.int hi), v3, some (.ref L), some (.ref D)] ∧ Step (some p) G H G' H' ∧ Pq G' H' p (n + 1 + i) ∧ G' L = none ∧ G' D = none ∧ H' L = some (.lst (sV zs)) ∧ H' D = some (.lst (sV ys)) ∧ (ys ++ zs).Perm xs ∧ ys.length = i)
    ⟨_, G2, [], xs, rfl, s02, P2, g2L, g2D, hL2, hD2, List.Perm.refl _, rfl⟩ ?_ ?_
  · rintro i σ H' hi' ⟨v3, G', ys, zs, rfl, st, ps, gl, gd, hLz, hDy, pm, rfl⟩
    have pl := pm.length_eq
    rw [List.length_append] at pl
    have zl := sV_len zs
    refine ⟨_, rfl, .inl ⟨rfl, _, SqL.of hDy⟩, _, rfl, .inl ⟨rfl, _, SqL.of hLz⟩, _, rfl, _, rfl, L, _, rfl, .inl (SqL.of hLz), G', p, _, _, rfl, ps, by omega, by omega, by omega, fun d2 Ga Ha sa Pa a2 b2 => ?_⟩
    rw [zl] at b2
    have hk : d2.toNat < zs.length := by omega
    have hLa := sa.kpc _ _ hLz nLp
    have hDa := sa.kpc _ _ hDy nDp
    have gla := sa.out gl (by rw [hLz]; exact fun z => by cases z)
    have gda := sa.out gd (by rw [hDy]; exact fun z => by cases z)
    have ey : zs[d2.toNat]? = some zs[d2.toNat] := List.getElem?_eq_getElem hk
    refine ⟨L, _, d2, d2.toNat, .str (S zs[d2.toNat]), rfl, rfl, hLa, by omega, by omega, by rw [zl]; exact seqIx a2 b2, by rw [List.getElem?_map, List.getElem?_map, ey]; rfl, ?_⟩
    rw [sV_erase]
    refine ⟨D, _, _, rfl, rfl, by rw [upd_ne nLD.symm]; exact hDa, by rw [sV_len]; omega, ?_⟩
    refine ⟨_, Ga, ys ++ [zs[d2.toNat]], zs.eraseIdx d2.toNat, rfl, ((st.trans sa).loc hLH gla).loc hDH gda, ((Pa.mono (by omega)).local_ gla nLp).local_ gda nDp, gla, gda, by rw [upd_ne nLD, upd_same], ?_, ?_, by rw [List.length_append]; rfl⟩
    · rw [upd_same, ← sV_app]; rfl
    · refine List.Perm.trans ?_ pm
      rw [List.append_assoc]
      exact (erase_perm ey).append_left ys
  rintro σ H' ⟨v3, G', ys, zs, rfl, st, ps, gl, gd, hLz, hDy, pm, hyl⟩
  have sF := st.freeze (q := D) hDH hDy gd
  have mem : ∀ y ∈ ys, y ∈ xs := fun y hy => pm.mem_iff.mp (List.mem_append_left _ hy)
  have ndy : ys.Nodup := (List.nodup_append.mp (pm.nodup_iff.mpr nd)).1
  have PF := (ps.frz hDy gd nDp).mono (show n + 1 + (1 + d).toNat ≤ n + 10 by omega)
  exact ⟨_, rfl, q D ys _ H' sF PF upd_same ⟨mem, ndy⟩ (by omega) (by omega)⟩
end Pf
namespace Bs
open PySem PySem.Spec PyProof.Rows L2 SX
variable {P : Program} {w : World} {K : PySem.W.Frag} {mg : Str → Option Value} {base : Heap}
theorem S_toList (x : Str) : S x.cps.toList = x := by
  cases x
  simp [S]
/-! ### the law's own names: a letter with a number, and x, n, s, t with a letter -/
abbrev lS (i : Nat) : Str := ⟨#[97 + i]⟩
def cS (i t : Nat) : Str := lS i ++ toString (t : Int)
def cN (i t : Nat) : List Nat := (cS i t).cps.toList
theorem cN_S (i t : Nat) : S (cN i t) = cS i t := S_toList _
def fS (x : Str) (i : Nat) : Str := x ++ lS i
def fN (x : Str) (i : Nat) : List Nat := (fS x i).cps.toList
theorem fN_S (x : Str) (i : Nat) : S (fN x i) = fS x i := S_toList _
def Ul : List (List Nat) := (List.range 3).flatMap fun i => (List.range 4).map (cN i) ++ [fN "x" i, fN "n" i, fN "s" i]
theorem Ul_len : Ul.length = 21 := by decide +kernel
theorem Ul_nm : ∀ w ∈ Ul, Nm w := by
  have h : Ul.all nmB = true := by decide +kernel
  exact fun w hw => nm_of (List.all_eq_true.mp h w hw)
def uOk (i : Nat) : Bool := ((List.range 4).all fun t => decide (cN i t ∈ Ul)) && decide (fN "x" i ∈ Ul) && decide (fN "n" i ∈ Ul) && decide (fN "s" i ∈ Ul) && decide ((List.range 4).map (cN i)).Nodup && ((List.range 4).all fun t => decide (cN i t ≠ fN "x" i ∧ cN i t ≠ fN "n" i ∧ cN i t ≠ fN "s" i)) && decide (fN "n" i ≠ fN "s" i) && nmB (fN "t" i) && ((List.range 4).all fun t => decide ((cS i t).length ≤ 100 ∧ (toString (t : Int) : Str).length ≤ 100))
theorem uOk_all : ∀ i < 3, uOk i = true := by decide +kernel
structure UF (i : Nat) : Prop where
  c : ∀ t < 4, cN i t ∈ Ul
  x : fN "x" i ∈ Ul
  n : fN "n" i ∈ Ul
  s : fN "s" i ∈ Ul
  nd : ((List.range 4).map (cN i)).Nodup
  ne : ∀ t < 4, cN i t ≠ fN "x" i ∧ cN i t ≠ fN "n" i ∧ cN i t ≠ fN "s" i
  ns : fN "n" i ≠ fN "s" i
  t : Nm (fN "t" i)
  l : ∀ t < 4, (cS i t).length ≤ 100 ∧ (toString (t : Int) : Str).length ≤ 100
theorem uf {i : Nat} (h : i < 3) : UF i := by
  have := uOk_all i h
  unfold uOk at this
  simp only [Bool.and_eq_true, decide_eq_true_eq, List.all_eq_true, List.mem_range] at this
  obtain ⟨⟨⟨⟨⟨⟨⟨⟨h1, h2⟩, h3⟩, h4⟩, h5⟩, h6⟩, h7⟩, h8⟩, h9⟩ := this
  exact ⟨h1, h2, h3, h4, h5, h6, h7, nm_of h8, h9⟩
def uNe : Bool := (List.range 3).all fun i => (List.range 4).all fun t => (List.range 3).all fun j => decide (cN i t ≠ fN "n" j ∧ cN i t ≠ fN "s" j)
theorem uNe_ok : uNe = true := by decide +kernel
theorem cN_ne {i t j : Nat} (h : i < 3) (ht : t < 4) (hj : j < 3) : cN i t ≠ fN "n" j ∧ cN i t ≠ fN "s" j := by
  have := uNe_ok
  unfold uNe at this
  simp only [decide_eq_true_eq, List.all_eq_true, List.mem_range] at this
  exact this i h t ht j hj
abbrev colsN (i j : Nat) : List (List Nat) := (List.range j).map (cN i)
theorem colsN_mem {i j : Nat} {c : List Nat} (h : c ∈ colsN i j) : ∃ t, t < j ∧ c = cN i t := by
  obtain ⟨t, ht, rfl⟩ := List.mem_map.mp h
  exact ⟨t, List.mem_range.mp ht, rfl⟩
theorem colsN_nd {i j : Nat} (h : i < 3) (hj : j ≤ 4) : (colsN i j).Nodup := by
  refine (uf h).nd.sublist (List.Sublist.map _ ?_)
  rcases (show j = 0 ∨ j = 1 ∨ j = 2 ∨ j = 3 ∨ j = 4 by omega) with rfl | rfl | rfl | rfl | rfl <;> decide
theorem colsN_len (i j : Nat) : (colsN i j).length = j := by simp
theorem colsN_ok {i j : Nat} (h : i < 3) (h1 : 1 ≤ j) (hj : j ≤ 4) : OkC (colsN i j) := ⟨fun c hc => by
  obtain ⟨t, ht, rfl⟩ := colsN_mem hc
  exact Ul_nm _ ((uf h).c t (by omega)), colsN_nd h hj, by rw [colsN_len]; omega, by rw [colsN_len]; omega⟩
/-! ### what the law keeps of a step -/
structure Good (st : Stp) : Prop where
  ok : OkS st
  l1 : 1 ≤ st.cs.length
  col : ∀ c ∈ st.cs, c ∈ Ul
  sk : PyData.strOk (S st.kd) = true
  mo : st.ms = st.cs.filter fun c => decide (c ∈ st.ms)
theorem fil_nil (cs : List (List Nat)) : ([] : List (List Nat)) = cs.filter fun c => decide (c ∈ ([] : List (List Nat))) := (List.filter_eq_nil_iff.mpr fun x _ => by simp).symm
theorem Good.mk' {st : Stp} (nd : st.cs.Nodup) (l1 : 1 ≤ st.cs.length) (col : ∀ c ∈ st.cs, c ∈ Ul) (ms : ∀ c ∈ st.ms, c ∈ st.cs) (nm : st.ms.Nodup) (dp : ∀ c ∈ st.cs, c ∉ st.ms → ∃ n, st.ds.lookup c = some n ∧ n ≤ 3) (dn : (st.ds.map (·.1)).Nodup) (dk : ∀ c ∈ st.ds.map (·.1), c ∈ st.cs) (sk : PyData.strOk (S st.kd) = true) (mo : st.ms = st.cs.filter fun c => decide (c ∈ st.ms)) : Good st := by
  have h1 : st.cs.length ≤ 21 := by rw [← Ul_len]; exact nodup_len nd col
  have h2 : st.ds.length ≤ 21 := by
    rw [← List.length_map (f := fun x : List Nat × Nat => x.1), ← Ul_len]
    exact nodup_len dn fun c hc => col c (dk c hc)
  exact ⟨⟨nd, by omega, ms, nm, dp, dn, by omega, fun c hc => Ul_nm c (col c hc), dk⟩, l1, col, sk, mo⟩
theorem zd_lk {cs : List (List Nat)} {c : List Nat} (h : c ∈ cs) : (cs.map fun c => (c, 0)).lookup c = some 0 := by
  induction cs with
  | nil => cases h
  | cons z r ih =>
    rw [List.map_cons, List.lookup_cons]
    by_cases e : c = z
    · rw [e, beq_self_eq_true]
    · rw [beq_false_of_ne e]
      exact ih ((List.mem_cons.mp h).resolve_left e)
abbrev zd (cs : List (List Nat)) : List (List Nat × Nat) := cs.map fun c => (c, 0)
theorem zd_keys (cs : List (List Nat)) : (zd cs).map (·.1) = cs := by
  rw [List.map_map]
  exact List.map_id _
abbrev st0 (cs : List (List Nat)) : Stp := ⟨kScan, cs, [], zd cs⟩
theorem good0 {cs : List (List Nat)} (nd : cs.Nodup) (l1 : 1 ≤ cs.length) (col : ∀ c ∈ cs, c ∈ Ul) : Good (st0 cs) := by
  refine .mk' nd l1 col (fun c h => by cases h) List.nodup_nil (fun c hc _ => ⟨0, zd_lk hc, by decide⟩) (by show ((zd cs).map (·.1)).Nodup; rw [zd_keys]; exact nd) (fun c hc => ?_) (by show PyData.strOk (S kScan) = true; decide +kernel) (fil_nil _)
  have hc : c ∈ (zd cs).map (·.1) := hc
  rw [zd_keys] at hc
  exact hc
theorem dep0 {cs : List (List Nat)} {c : List Nat} (h : c ∈ cs) : dep (st0 cs) c = 0 := by
  show ((zd cs).lookup c).getD 0 = 0
  rw [zd_lk h]
  rfl
theorem lk_app {as bs : List (List Nat × Nat)} {c : List Nat} {n : Nat} (h : as.lookup c = some n) : (as ++ bs).lookup c = some n := by
  induction as with
  | nil => cases h
  | cons p r ih =>
    obtain ⟨k, m⟩ := p
    rw [List.cons_append, List.lookup_cons]
    rw [List.lookup_cons] at h
    by_cases e : c = k
    · rw [e, beq_self_eq_true] at h ⊢
      exact h
    · rw [beq_false_of_ne e] at h ⊢
      exact ih h
theorem lk_app2 {as bs : List (List Nat × Nat)} {c : List Nat} (h : c ∉ as.map (·.1)) : (as ++ bs).lookup c = bs.lookup c := by
  induction as with
  | nil => rfl
  | cons p r ih =>
    obtain ⟨k, m⟩ := p
    rw [List.map_cons, List.mem_cons, not_or] at h
    rw [List.cons_append, List.lookup_cons, beq_false_of_ne h.1]
    exact ih h.2
/-- a computed column -/
theorem good_cmp {cs : List (List Nat)} {n : List Nat} {m : Nat} (nd : cs.Nodup) (col : ∀ c ∈ cs, c ∈ Ul) (hn : n ∈ Ul) (nn : n ∉ cs) (hm : m ≤ 2) : Good ⟨kCompute, cs ++ [n], [], zd cs ++ [(n, 1 + m)]⟩ := by
  have hk : (zd cs ++ [(n, 1 + m)]).map (·.1) = cs ++ [n] := by
    rw [List.map_append, zd_keys]
    rfl
  have nd2 : (cs ++ [n]).Nodup := List.nodup_append.mpr ⟨nd, by simp, fun a ha b hb e => nn (by rw [← List.mem_singleton.mp hb, ← e]; exact ha)⟩
  refine .mk' nd2 (by simp) (fun c hc => ?_) (fun c h => by cases h) List.nodup_nil (fun c hc _ => ?_) (by show ((zd cs ++ [(n, 1 + m)]).map (·.1)).Nodup; rw [hk]; exact nd2) (fun c hc => ?_) (by show PyData.strOk (S kCompute) = true; decide +kernel) (fil_nil _)
  · rcases List.mem_append.mp hc with h | h
    · exact col c h
    · rw [List.mem_singleton.mp h]; exact hn
  · rcases List.mem_append.mp hc with h | h
    · exact ⟨0, lk_app (zd_lk h), by decide⟩
    · obtain rfl := List.mem_singleton.mp h
      refine ⟨1 + m, ?_, by omega⟩
      show (zd cs ++ [(c, 1 + m)]).lookup c = _
      rw [lk_app2 (by rw [zd_keys]; exact nn), List.lookup_cons, beq_self_eq_true]
  · have hc : c ∈ (zd cs ++ [(n, 1 + m)]).map (·.1) := hc
    rw [hk] at hc
    exact hc
/-- some columns -/
theorem good_keep {cs xs : List (List Nat)} (nd : xs.Nodup) (l1 : 1 ≤ xs.length) (sub : ∀ x ∈ xs, x ∈ cs) (col : ∀ c ∈ cs, c ∈ Ul) : Good ⟨kKeep, xs, [], dsOf (st0 cs) xs⟩ := by
  refine .mk' nd l1 (fun c hc => col c (sub c hc)) (fun c h => by cases h) List.nodup_nil (fun c hc _ => ⟨_, dsOf_lk hc, by rw [dep0 (sub c hc)]; decide⟩) (by show ((dsOf (st0 cs) xs).map (·.1)).Nodup; rw [dsOf_keys]; exact nd) (fun c hc => ?_) (by show PyData.strOk (S kKeep) = true; decide +kernel) (fil_nil _)
  have hc : c ∈ (dsOf (st0 cs) xs).map (·.1) := hc
  rw [dsOf_keys] at hc
  exact hc
/-- a group by a column -/
theorem good_grp {cs : List (List Nat)} {k n s c2 : List Nat} (hk : k ∈ cs) (col : ∀ c ∈ cs, c ∈ Ul) (hn : n ∈ Ul) (hs : s ∈ Ul) (h1 : k ≠ n) (h2 : k ≠ s) (h3 : n ≠ s) : Good (grSt (st0 cs) [k] [(n, none), (s, some c2)]) := by
  refine .mk' (st := ⟨kGroup, [k, n, s], [n, s], [(k, dep (st0 cs) k)]⟩) (by simp [h1, h2, h3]) (by simp) (fun c hc => ?_) (fun c hc => List.mem_cons_of_mem _ hc) (by simp [h3]) (fun c hc nc => ?_) (by simp) (fun c hc => ?_) (by show PyData.strOk (S kGroup) = true; decide +kernel) (by show [n, s] = [k, n, s].filter fun c => decide (c ∈ [n, s]); simp [h1, h2])
  · simp only [List.mem_cons, List.mem_nil_iff, or_false] at hc
    rcases hc with rfl | rfl | rfl
    · exact col _ hk
    · exact hn
    · exact hs
  · simp only [List.mem_cons, List.mem_nil_iff, or_false, not_or] at hc nc
    rcases hc with rfl | rfl | rfl
    · exact ⟨_, by rw [List.lookup_cons, beq_self_eq_true], by rw [dep0 hk]; decide⟩
    · exact absurd rfl nc.1
    · exact absurd rfl nc.2
  · have : c = k := by simpa using hc
    rw [this]
    exact List.mem_cons_self
theorem gr_ok {cs : List (List Nat)} {k n s c2 : List Nat} (hk : k ∈ cs) (h2c : c2 ∈ cs) (col : ∀ c ∈ cs, c ∈ Ul) (hn : n ∈ Ul) (hs : s ∈ Ul) (h1 : k ≠ n) (h2 : k ≠ s) (h3 : n ≠ s) : GrOk (st0 cs) [k] [(n, none), (s, some c2)] := by
  refine ⟨fun x hx => ⟨by rw [List.mem_singleton.mp hx]; exact hk, fun z => by cases z⟩, by simp, by simp, by simp, by simp, by simp [h3], fun u hu => ?_, fun u hu c e => ?_⟩
  · simp only [List.mem_cons, List.mem_nil_iff, or_false] at hu
    rcases hu with rfl | rfl
    · exact ⟨Ul_nm _ hn, by simp [h1.symm]⟩
    · exact ⟨Ul_nm _ hs, by simp [h2.symm]⟩
  · simp only [List.mem_cons, List.mem_nil_iff, or_false] at hu
    rcases hu with rfl | rfl
    · cases e
    · cases e
      exact ⟨h2c, Ul_nm _ (col _ h2c)⟩
/-- a join of two that share no column -/
theorem good_join {st st2 : Stp} (h : Good st) (h2 : Good st2) (dj : ∀ c ∈ st.cs, c ∉ st2.cs) : Good ⟨kJoin, st.cs ++ st2.cs, st.ms ++ st2.ms, st.ds ++ st2.ds⟩ := by
  refine .mk' (nodup_join h.ok.nd h2.ok.nd dj) (by have := h.l1; show 1 ≤ (st.cs ++ st2.cs).length; rw [List.length_append]; omega) (fun c hc => ?_) (fun c hc => ?_) (nodup_join h.ok.nm h2.ok.nm fun c hc hc2 => dj c (h.ok.ms c hc) (h2.ok.ms c hc2)) (fun c hc nc => ?_) ?_ (fun c hc => ?_) (by show PyData.strOk (S kJoin) = true; decide +kernel) ?_
  · rcases List.mem_append.mp hc with z | z
    · exact h.col c z
    · exact h2.col c z
  · rcases List.mem_append.mp hc with z | z
    · exact List.mem_append_left _ (h.ok.ms c z)
    · exact List.mem_append_right _ (h2.ok.ms c z)
  · have nc1 : c ∉ st.ms := fun z => nc (List.mem_append_left _ z)
    have nc2 : c ∉ st2.ms := fun z => nc (List.mem_append_right _ z)
    rcases List.mem_append.mp hc with z | z
    · obtain ⟨n, e, l⟩ := h.ok.dp c z nc1
      exact ⟨n, lk_app e, l⟩
    · obtain ⟨n, e, l⟩ := h2.ok.dp c z nc2
      exact ⟨n, (lk_app2 fun y => dj c (h.ok.dk c y) z).trans e, l⟩
  · show ((st.ds ++ st2.ds).map (·.1)).Nodup
    rw [List.map_append]
    exact nodup_join h.ok.dn h2.ok.dn fun c hc hc2 => dj c (h.ok.dk c hc) (h2.ok.dk c hc2)
  · have hc : c ∈ (st.ds ++ st2.ds).map (·.1) := hc
    rw [List.map_append] at hc
    rcases List.mem_append.mp hc with z | z
    · exact List.mem_append_left _ (h.ok.dk c z)
    · exact List.mem_append_right _ (h2.ok.dk c z)
  · show st.ms ++ st2.ms = (st.cs ++ st2.cs).filter fun c => decide (c ∈ st.ms ++ st2.ms)
    rw [List.filter_append]
    have a1 : (st.cs.filter fun c => decide (c ∈ st.ms ++ st2.ms)) = st.cs.filter fun c => decide (c ∈ st.ms) := List.filter_congr fun c hc => by
      rw [decide_eq_decide, List.mem_append]
      exact ⟨fun z => z.resolve_right fun y => dj c hc (h2.ok.ms c y), .inl⟩
    have a2 : (st2.cs.filter fun c => decide (c ∈ st.ms ++ st2.ms)) = st2.cs.filter fun c => decide (c ∈ st2.ms) := List.filter_congr fun c hc => by
      rw [decide_eq_decide, List.mem_append]
      exact ⟨fun z => z.resolve_left fun y => dj c (h.ok.ms c y) hc, .inr⟩
    rw [a1, a2, ← h.mo, ← h2.mo]
/-- a union -/
theorem un_mem {st st2 : Stp} {ps : List Cp} (nd : (ps.map (·.1)).Nodup) {p : Cp} (hp : p ∈ ps) : p.1 ∈ unMs st st2 ps ↔ unP st st2 p = true := by
  constructor
  · intro z
    obtain ⟨q, hq, e⟩ := List.mem_map.mp z
    obtain ⟨hq1, hq2⟩ := List.mem_filter.mp hq
    have : q = p := by
      clear z hq hq2
      induction ps with
      | nil => cases hp
      | cons y r ih =>
        rw [List.map_cons, List.nodup_cons] at nd
        rcases List.mem_cons.mp hp with rfl | h1
        · rcases List.mem_cons.mp hq1 with h2 | h2
          · exact h2
          · exact absurd (List.mem_map.mpr ⟨q, h2, e⟩) nd.1
        · rcases List.mem_cons.mp hq1 with rfl | h2
          · exact absurd (List.mem_map.mpr ⟨p, h1, e.symm⟩) nd.1
          · exact ih nd.2 h1 h2
    rw [← this]
    exact hq2
  · exact fun z => List.mem_map.mpr ⟨p, List.mem_filter.mpr ⟨hp, z⟩, rfl⟩
theorem un_lk {st st2 : Stp} : ∀ {ps : List Cp} {p : Cp}, (ps.map (·.1)).Nodup → p ∈ ps → unP st st2 p = false → (unDs st st2 ps).lookup p.1 = some (mx2 (dep st p.1) (dep st2 p.2))
  | [], _, _, h, _ => by cases h
  | y :: r, p, nd, h, hp => by
    rw [List.map_cons, List.nodup_cons] at nd
    rcases List.mem_cons.mp h with rfl | h1
    · show ((List.filter (fun p => !unP st st2 p) (p :: r)).map _).lookup p.1 = _
      rw [List.filter_cons, if_pos (by rw [hp]; rfl), List.map_cons, List.lookup_cons, beq_self_eq_true]
    · have ih := un_lk (st := st) (st2 := st2) nd.2 h1 hp
      show ((List.filter (fun p => !unP st st2 p) (y :: r)).map _).lookup p.1 = _
      rw [List.filter_cons]
      split
      · rw [List.map_cons, List.lookup_cons, beq_false_of_ne (fun e => nd.1 (List.mem_map.mpr ⟨p, h1, e⟩))]
        exact ih
      · exact ih
theorem good_union {st st2 : Stp} (h : Good st) (h2 : Good st2) (hl : st.cs.length = st2.cs.length) : Good ⟨kUnion, st.cs, unMs st st2 (st.cs.zip st2.cs), unDs st st2 (st.cs.zip st2.cs)⟩ := by
  have hz : (st.cs.zip st2.cs).map (·.1) = st.cs := zip_fst hl
  have nd : ((st.cs.zip st2.cs).map (·.1)).Nodup := by rw [hz]; exact h.ok.nd
  have mem : ∀ c ∈ st.cs, ∃ p ∈ st.cs.zip st2.cs, p.1 = c := fun c hc => by
    rw [← hz] at hc
    obtain ⟨p, hp, e⟩ := List.mem_map.mp hc
    exact ⟨p, hp, e⟩
  have sub : ∀ (f : Cp → Bool), (((st.cs.zip st2.cs).filter f).map (·.1)).Sublist st.cs := fun f => by
    rw (config := {occs := .pos [2]}) [← hz]
    exact List.filter_sublist.map _
  refine .mk' h.ok.nd h.l1 h.col (fun c hc => (sub _).subset hc) (h.ok.nd.sublist (sub _)) (fun c hc nc => ?_) (by show ((unDs st st2 _).map (·.1)).Nodup; rw [unDs_keys]; exact h.ok.nd.sublist (sub _)) (fun c hc => ?_) (by show PyData.strOk (S kUnion) = true; decide +kernel) ?_
  · obtain ⟨p, hp, rfl⟩ := mem c hc
    have hu : unP st st2 p = false := by
      cases e : unP st st2 p with
      | false => rfl
      | true => exact absurd ((un_mem nd hp).mpr e) nc
    refine ⟨_, un_lk nd hp hu, ?_⟩
    have hu1 : decide (p.1 ∈ st.ms) = false ∧ decide (p.2 ∈ st2.ms) = false := by
      have := hu
      unfold unP at this
      exact Bool.or_eq_false_iff.mp this
    have d1 := (h.ok.dep (List.of_mem_zip hp).1 (of_decide_eq_false hu1.1)).2
    have d2 := (h2.ok.dep (List.of_mem_zip hp).2 (of_decide_eq_false hu1.2)).2
    unfold mx2
    split <;> omega
  · have hc : c ∈ (unDs st st2 (st.cs.zip st2.cs)).map (·.1) := hc
    rw [unDs_keys] at hc
    exact (sub _).subset hc
  · show unMs st st2 (st.cs.zip st2.cs) = st.cs.filter fun c => decide (c ∈ unMs st st2 (st.cs.zip st2.cs))
    generalize hps : st.cs.zip st2.cs = ps at *
    rw (config := {occs := .pos [1]}) [← hz]
    rw [List.filter_map]
    show (ps.filter (unP st st2)).map (·.1) = _
    congr 1
    refine List.filter_congr fun p hp => ?_
    show unP st st2 p = decide (p.1 ∈ unMs st st2 ps)
    cases e : unP st st2 p with
    | true => exact (decide_eq_true ((un_mem nd hp).mpr e)).symm
    | false => exact (decide_eq_false fun z => by rw [(un_mem nd hp).mp z] at e; cases e).symm
/-- another word -/
theorem Good.kd {st : Stp} (h : Good st) (w : List Nat) (hw : PyData.strOk (S w) = true) : Good { st with kd := w } := ⟨⟨h.ok.nd, h.ok.ln, h.ok.ms, h.ok.nm, h.ok.dp, h.ok.dn, h.ok.dl, h.ok.nc, h.ok.dk⟩, h.l1, h.col, hw, h.mo⟩
end Bs
namespace Pf
open PySem PySem.Spec PyProof.Rows L2 Bs SX
variable {P : Program} {w : World} {K : PySem.W.Frag} {mg : Str → Option Value} {base : Heap}
theorem wk_group_by_na_sa (T : Tx K mg) : Dm.MetW P w K mg base 5 (CSt K) "group_by" (spMGroupBy K (CSt K)) ["na", "sa"] := by
  obtain ⟨fd, F⟩ := f_Step_group_by T
  have t_grouped := t_grouped (P := P) (w := w) (base := base) T
  obtain ⟨oc, od, dV', kV', doc, pm, an, cdv, ct, osl, rfl, lk, hcd, hD, _⟩ := F.ex
  obtain ⟨_, rfl⟩ | ⟨hne, _⟩ := hD
  rotate_left
  · exact absurd rfl hne
  refine ⟨_, cls_Step_ T, meth_Step_group_by T, Dm.fn_kw (p0 := "self") (pv := "keys") (pd := "measures") (N := N_Step_group_by) lk hcd sc_Step_group_by StX.cxUp_none (by decide +kernel) (by decide) (fun u us ws hl => match us, ws, hl with | [], [_, _], _ => rfl | _ :: _, [_, _], _ => rfl) (fun A outer s H vs Q E hr h => ?_)⟩
  obtain ⟨G, a, c, d, st, ins, kvs, xs, us, rfl, hG, ha, oks, hc, hd, hp, ok, q⟩ := h
  obtain ⟨dx, fs, h1, hno⟩ := ha.obj
  suffices hh : ∃ t, PSs (cxOf C8.CX0 P w K mg base N_Step_group_by d_Step_group_by.2.qual d_Step_group_by.2.scope (d_Step_group_by.1 K) cdv A outer s H E).nox d_Step_group_by.2.body t ∧ t { nx := fun _ H' => Q .non H', rt := Q } (start N_Step_group_by [.ref a, .ref c, .ref d]) H from
    let ⟨t, x1, x2⟩ := hh
    ⟨t, x1.nox, x2⟩
  refine ⟨_, (pss_one (ps_ret (C8.pe_mt t_grouped hr (by first | decide | omega) (pv 0) (pa_cons (pv 1) (pa_cons (LiI.pe_listItems rfl (pv 2) (by rfl) (z_list T) boot_list) pa_nil))))), ?_⟩
  refine ⟨_, rfl, a, dx, fs, rfl, hG _ _ h1, hno _ (by decide +kernel), _, rfl, _, rfl, d, kvs, rfl, hd, fun H1 p ts k1 hpn htn hpt hp1 hts => ?_⟩
  have k1 : Same H H1 := k1
  have s1 : Step none G H G H1 := ⟨Same.refl G, fun b o e => k1 _ _ (hG _ _ e), fun b hb => .inl hb, fun b o e _ => k1 _ _ e, fun b e => by cases e⟩
  have hpr : PairsAt K H1 (ts.map V.ref) us := paired_map (paired_two (fun t q u e1 e2 => by
    obtain ⟨e3, e4⟩ := e2
    rw [e3] at e1
    exact ⟨t, q.2, rfl, SqT.of e1, e4.same k1⟩) hts hp)
  exact ⟨G, a, c, p, st, ins, ts.map V.ref, xs, us, rfl, s1.gh, ha, oks, sqT_same hc k1, hp1, hpr, ok, fun G' H' x s2 at' hx => q G' H' x (s1.trans s2) at' (s1.free hx)⟩
theorem wk_group_by_nb_sb (T : Tx K mg) : Dm.MetW P w K mg base 5 (CSt K) "group_by" (spMGroupBy K (CSt K)) ["nb", "sb"] := by
  obtain ⟨fd, F⟩ := f_Step_group_by T
  have t_grouped := t_grouped (P := P) (w := w) (base := base) T
  obtain ⟨oc, od, dV', kV', doc, pm, an, cdv, ct, osl, rfl, lk, hcd, hD, _⟩ := F.ex
  obtain ⟨_, rfl⟩ | ⟨hne, _⟩ := hD
  rotate_left
  · exact absurd rfl hne
  refine ⟨_, cls_Step_ T, meth_Step_group_by T, Dm.fn_kw (p0 := "self") (pv := "keys") (pd := "measures") (N := N_Step_group_by) lk hcd sc_Step_group_by StX.cxUp_none (by decide +kernel) (by decide) (fun u us ws hl => match us, ws, hl with | [], [_, _], _ => rfl | _ :: _, [_, _], _ => rfl) (fun A outer s H vs Q E hr h => ?_)⟩
  obtain ⟨G, a, c, d, st, ins, kvs, xs, us, rfl, hG, ha, oks, hc, hd, hp, ok, q⟩ := h
  obtain ⟨dx, fs, h1, hno⟩ := ha.obj
  suffices hh : ∃ t, PSs (cxOf C8.CX0 P w K mg base N_Step_group_by d_Step_group_by.2.qual d_Step_group_by.2.scope (d_Step_group_by.1 K) cdv A outer s H E).nox d_Step_group_by.2.body t ∧ t { nx := fun _ H' => Q .non H', rt := Q } (start N_Step_group_by [.ref a, .ref c, .ref d]) H from
    let ⟨t, x1, x2⟩ := hh
    ⟨t, x1.nox, x2⟩
  refine ⟨_, (pss_one (ps_ret (C8.pe_mt t_grouped hr (by first | decide | omega) (pv 0) (pa_cons (pv 1) (pa_cons (LiI.pe_listItems rfl (pv 2) (by rfl) (z_list T) boot_list) pa_nil))))), ?_⟩
  refine ⟨_, rfl, a, dx, fs, rfl, hG _ _ h1, hno _ (by decide +kernel), _, rfl, _, rfl, d, kvs, rfl, hd, fun H1 p ts k1 hpn htn hpt hp1 hts => ?_⟩
  have k1 : Same H H1 := k1
  have s1 : Step none G H G H1 := ⟨Same.refl G, fun b o e => k1 _ _ (hG _ _ e), fun b hb => .inl hb, fun b o e _ => k1 _ _ e, fun b e => by cases e⟩
  have hpr : PairsAt K H1 (ts.map V.ref) us := paired_map (paired_two (fun t q u e1 e2 => by
    obtain ⟨e3, e4⟩ := e2
    rw [e3] at e1
    exact ⟨t, q.2, rfl, SqT.of e1, e4.same k1⟩) hts hp)
  exact ⟨G, a, c, p, st, ins, ts.map V.ref, xs, us, rfl, s1.gh, ha, oks, sqT_same hc k1, hp1, hpr, ok, fun G' H' x s2 at' hx => q G' H' x (s1.trans s2) at' (s1.free hx)⟩
theorem wk_group_by_nc_sc (T : Tx K mg) : Dm.MetW P w K mg base 5 (CSt K) "group_by" (spMGroupBy K (CSt K)) ["nc", "sc"] := by
  obtain ⟨fd, F⟩ := f_Step_group_by T
  have t_grouped := t_grouped (P := P) (w := w) (base := base) T
  obtain ⟨oc, od, dV', kV', doc, pm, an, cdv, ct, osl, rfl, lk, hcd, hD, _⟩ := F.ex
  obtain ⟨_, rfl⟩ | ⟨hne, _⟩ := hD
  rotate_left
  · exact absurd rfl hne
  refine ⟨_, cls_Step_ T, meth_Step_group_by T, Dm.fn_kw (p0 := "self") (pv := "keys") (pd := "measures") (N := N_Step_group_by) lk hcd sc_Step_group_by StX.cxUp_none (by decide +kernel) (by decide) (fun u us ws hl => match us, ws, hl with | [], [_, _], _ => rfl | _ :: _, [_, _], _ => rfl) (fun A outer s H vs Q E hr h => ?_)⟩
  obtain ⟨G, a, c, d, st, ins, kvs, xs, us, rfl, hG, ha, oks, hc, hd, hp, ok, q⟩ := h
  obtain ⟨dx, fs, h1, hno⟩ := ha.obj
  suffices hh : ∃ t, PSs (cxOf C8.CX0 P w K mg base N_Step_group_by d_Step_group_by.2.qual d_Step_group_by.2.scope (d_Step_group_by.1 K) cdv A outer s H E).nox d_Step_group_by.2.body t ∧ t { nx := fun _ H' => Q .non H', rt := Q } (start N_Step_group_by [.ref a, .ref c, .ref d]) H from
    let ⟨t, x1, x2⟩ := hh
    ⟨t, x1.nox, x2⟩
  refine ⟨_, (pss_one (ps_ret (C8.pe_mt t_grouped hr (by first | decide | omega) (pv 0) (pa_cons (pv 1) (pa_cons (LiI.pe_listItems rfl (pv 2) (by rfl) (z_list T) boot_list) pa_nil))))), ?_⟩
  refine ⟨_, rfl, a, dx, fs, rfl, hG _ _ h1, hno _ (by decide +kernel), _, rfl, _, rfl, d, kvs, rfl, hd, fun H1 p ts k1 hpn htn hpt hp1 hts => ?_⟩
  have k1 : Same H H1 := k1
  have s1 : Step none G H G H1 := ⟨Same.refl G, fun b o e => k1 _ _ (hG _ _ e), fun b hb => .inl hb, fun b o e _ => k1 _ _ e, fun b e => by cases e⟩
  have hpr : PairsAt K H1 (ts.map V.ref) us := paired_map (paired_two (fun t q u e1 e2 => by
    obtain ⟨e3, e4⟩ := e2
    rw [e3] at e1
    exact ⟨t, q.2, rfl, SqT.of e1, e4.same k1⟩) hts hp)
  exact ⟨G, a, c, p, st, ins, ts.map V.ref, xs, us, rfl, s1.gh, ha, oks, sqT_same hc k1, hp1, hpr, ok, fun G' H' x s2 at' hx => q G' H' x (s1.trans s2) at' (s1.free hx)⟩
end Pf
namespace Bs
open PySem PySem.Spec PyProof.Rows L2 SX
variable {P : Program} {w : World} {K : PySem.W.Frag} {mg : Str → Option Value} {base : Heap}
/-- the tuple of a step: itself, its word, its columns and measures .. -/
def OneB (K : PySem.W.Frag) (C : Addr) (G : Hp) (o x : Addr) (st : Stp) : Prop := ∃ (c m : Addr) (r ins : List V), G o = some (.tup (.ref x :: .str (S st.kd) :: .ref c :: .ref m :: r)) ∧ G c = some (.lst (sV st.cs)) ∧ G m = some (.lst (sV st.ms)) ∧ StAt K C G x st ins
theorem OneB.same {C : Addr} {G H : Hp} {o x : Addr} {st : Stp} (h : OneB K C G o x st) (s : Same G H) : OneB K C H o x st := by
  obtain ⟨c, m, r, ins, h1, h2, h3, h4⟩ := h
  exact ⟨c, m, r, ins, s _ _ h1, s _ _ h2, s _ _ h3, h4.same s⟩
/-- .. and, if it has two inputs, theirs -/
def Rest (K : PySem.W.Frag) (C : Addr) (G : Hp) (r ins : List V) : Prop := r = [] ∨ ∃ (o1 x1 o2 x2 : Addr) (st1 st2 : Stp), r = [.ref o1, .ref o2] ∧ ins = [.ref x1, .ref x2] ∧ OneB K C G o1 x1 st1 ∧ OneB K C G o2 x2 st2 ∧ Good st1 ∧ Good st2
theorem Rest.same {C : Addr} {G H : Hp} {r ins : List V} (h : Rest K C G r ins) (s : Same G H) : Rest K C H r ins := by
  rcases h with h | ⟨o1, x1, o2, x2, st1, st2, h1, h2, h3, h4, h5, h6⟩
  · exact .inl h
  · exact .inr ⟨o1, x1, o2, x2, st1, st2, h1, h2, h3.same s, h4.same s, h5, h6⟩
structure OneAt (K : PySem.W.Frag) (C : Addr) (G : Hp) (o x : Addr) (st : Stp) : Prop where
  ex : ∃ (c m : Addr) (r ins : List V), G o = some (.tup (.ref x :: .str (S st.kd) :: .ref c :: .ref m :: r)) ∧ G c = some (.lst (sV st.cs)) ∧ G m = some (.lst (sV st.ms)) ∧ StAt K C G x st ins ∧ Rest K C G r ins
theorem OneAt.same {C : Addr} {G H : Hp} {o x : Addr} {st : Stp} (h : OneAt K C G o x st) (s : Same G H) : OneAt K C H o x st := by
  obtain ⟨c, m, r, ins, h1, h2, h3, h4, h5⟩ := h.ex
  exact ⟨c, m, r, ins, s _ _ h1, s _ _ h2, s _ _ h3, h4.same s, h5.same s⟩
theorem OneAt.b {C : Addr} {G : Hp} {o x : Addr} {st : Stp} (h : OneAt K C G o x st) : OneB K C G o x st := by
  obtain ⟨c, m, r, ins, h1, h2, h3, h4, h5⟩ := h.ex
  exact ⟨c, m, r, ins, h1, h2, h3, h4⟩
/-- one of the steps that were found -/
def One (K : PySem.W.Frag) (C : Addr) (G : Hp) (o : Addr) : Prop := ∃ (x : Addr) (st : Stp), OneAt K C G o x st ∧ Good st
theorem One.same {C : Addr} {G H : Hp} {o : Addr} (h : One K C G o) (s : Same G H) : One K C H o := by
  obtain ⟨x, st, h1, h2⟩ := h
  exact ⟨x, st, h1.same s, h2⟩
theorem lenIf {xs : List (List Nat)} {A B : Prop} (k : Nat) (h1 : xs.length = k → A) (h2 : xs.length ≠ k → B) : if decide (V.int ((sV xs).length : Nat) = V.int ((k : Nat) : Int)) = true then A else B := by
  by_cases e : xs.length = k
  · rw [if_pos (by rw [sV_len, e]; exact decide_eq_true rfl)]
    exact h1 e
  · rw [if_neg (fun z => e (by have := V.int.inj (of_decide_eq_true z); rw [sV_len] at this; exact Int.ofNat.inj this))]
    exact h2 e
theorem two_of {α : Type} {xs : List α} (h : xs.length = 2) : ∃ x y, xs = [x, y] := match xs, h with | [x, y], _ => ⟨x, y, rfl⟩
theorem kw1 {x : Str} (i : Nat) {m : Str} (h : x = fS m i) : x = S (fN m i) := h.trans (fN_S m i).symm
theorem na_ : ("na" : Str) = fS "n" 0 ∧ ("sa" : Str) = fS "s" 0 ∧ ("nb" : Str) = fS "n" 1 ∧ ("sb" : Str) = fS "s" 1 ∧ ("nc" : Str) = fS "n" 2 ∧ ("sc" : Str) = fS "s" 2 := by decide +kernel
theorem kvN' {H : Hp} {x : Str} {j : Nat} (h : x = fS "n" j) : KvAt K H (Sum.inr x, .str "count") (fN "n" j, none) := ⟨congrArg Sum.inr (kw1 j h), rfl⟩
theorem kvS' {H : Hp} {t : Addr} {x : Str} {j : Nat} {col : List Nat} (e : x = fS "s" j) (h : H t = some (.tup [.str "sum", .str (S col)])) : KvAt K H (Sum.inr x, .ref t) (fN "s" j, some col) := ⟨congrArg Sum.inr (kw1 j e), t, rfl, SqT.of h⟩
theorem grpCall {C a : Addr} {G H : Hp} {st : Stp} {ins : List V} {xs : List (List Nat)} {us : List (List Nat × Ms)} {kvs : List (Key × V)} {Q : VK} {E : XK} (hG : Same G H) (ha : StAt K C G a st ins) (oks : OkS st) (hk : Paired (KvAt K H) kvs us) (ok : GrOk st xs us)
    (q : MkSt K C G H (grSt st xs us) [.ref a] Q) (p d : Addr) (hp : H p = none) (hd : H d = none) (ne : d ≠ p) : spMGroupBy K C [.ref a, .ref p, .ref d] (upd (upd H p (.tup (sV xs))) d (.dK kvs)) Q E := by
  have hd1 : upd H p (.tup (sV xs)) d = none := by rw [upd_ne ne]; exact hd
  have s1 : Step none G H G (upd (upd H p (.tup (sV xs))) d (.dK kvs)) := ((Step.refl hG).loc hp (hG.free hp)).loc hd (hG.free hd)
  have k1 : Same H (upd (upd H p (.tup (sV xs))) d (.dK kvs)) := s1.all
  refine ⟨G, a, p, d, st, ins, kvs, xs, us, rfl, s1.gh, ha, oks, SqT.of (by rw [upd_ne ne.symm, upd_same]), upd_same, ?_, ok, fun G' H' x s' at' hx => q G' H' x (s1.trans s') at' (s1.free hx)⟩
  exact Paired.mapP hk fun q u h => ⟨h.1, h.2.same k1⟩
def spLBase (K : PySem.W.Frag) (C : Addr) : Sp := fun vs H Q _ => ∃ (G : Hp) (p : Addr) (n i : Nat), vs = [.ref p, .int (i : Nat)] ∧ Pq G H p n ∧ n ≤ 800000 ∧ i < 3 ∧
  ∀ (o : Addr) (G' H' : Hp), Step (some p) G H G' H' → Pq G' H' p (n + 20) → One K C G' o → Q (.ref o) H'
theorem mkR {C : Addr} {G H : Hp} {ca ka l x dx : Addr} {b : Br} {R : VK} {E : XK} {nm : Str} (hn : nm = S b.n) (hG : Same G H) (hc : SqL K H ca (sV b.cs)) (hk : Sq K H ka (sV b.ky)) (hl : LieAt K G l b.li) (ok : Ok b)
    (k : ∀ (G' H' : Hp), Step none G H G' H' → TbAt K C G' x b → R .non H') (hx : H x = none) (hdx : H dx = none) (ne : dx ≠ x) :
    spTInit K C [.ref x, .str nm, .ref ca, .ref ka, .ref l] (upd (upd H dx (.own x)) x (.ins C dx [])) R E := by
  subst hn
  have s0 : Step none G H G (upd H dx (.own x)) := (Step.refl hG).loc hdx (hG.free hdx)
  have hx1 : upd H dx (.own x) x = none := by rw [upd_ne ne.symm]; exact hx
  have n1 : Same H (upd H dx (.own x)) := Same.new (Same.refl H) hdx
  have n2 : Same (upd H dx (.own x)) (upd (upd H dx (.own x)) x (.ins C dx [])) := Same.new (Same.refl _) hx1
  have n3 := n1.trans n2
  refine ⟨G, x, dx, ca, ka, l, b, rfl, s0.gh.trans n2, hG.free hx, upd_same, sqL_same hc n3, hk.same n3, hl, ok, fun G' H' c k' st gp' hp' bat => ?_⟩
  have st1 := s0.trans (Step.absorb hx1 st)
  exact k _ H' (st1.freeze (q := x) hx hp' gp') ⟨dx, c, k', l, upd_same, bat.same (Same.new (Same.refl G') gp')⟩
abbrev wF : List Nat := [102]
theorem wF_ : ("f" : Str) = S wF := by decide +kernel
theorem wF_nm : Nm wF := nm_of (by decide +kernel)
theorem abc_at {i : Nat} (h : i < 3) : atI ("abc" : Str).cps.toList (i : Int) = some (97 + i) := by
  rcases (show i = 0 ∨ i = 1 ∨ i = 2 by omega) with rfl | rfl | rfl <;> decide +kernel
end Bs
namespace Pf
open PySem PySem.Spec PyProof.Rows L2 Bs SX
variable {P : Program} {w : World} {K : PySem.W.Frag} {mg : Str → Option Value} {base : Heap}
abbrev N_Lbase : List Str := ["_law_pen_here", "_law_at", "_law_letter", "_law_columns", "_law_base_here", "_law_way", "_law_made", "_law_some_here", "_law_turn"]
theorem sc_Lbase : FnScope N_Lbase ["_law_pen_here", "_law_at"] (defScope s_Lbase) := ⟨rfl, rfl, rfl, by decide +kernel, rfl, by decide +kernel, by decide +kernel⟩
theorem c_Lbase (T : Tx K mg) : C8.Cal P w K mg base 7 "_law_base" (spLBase K (CSt K)) [] := by
  obtain ⟨fd, F⟩ := f_Lbase T
  have c_Ldraw := c_Ldraw (P := P) (w := w) (base := base) T
  have c_Lsome := c_Lsome (P := P) (w := w) (base := base) T
  have c_scan := c_scan (P := P) (w := w) (base := base) T
  have m_Table := m_Table (P := P) (w := w) (base := base) T
  have tr_compute := tr_compute (P := P) (w := w) (base := base) T
  have tr_keep := tr_keep (P := P) (w := w) (base := base) T
  have wk_group_by_na_sa := wk_group_by_na_sa (P := P) (w := w) (base := base) T
  have wk_group_by_nb_sb := wk_group_by_nb_sb (P := P) (w := w) (base := base) T
  have wk_group_by_nc_sc := wk_group_by_nc_sc (P := P) (w := w) (base := base) T
  refine mkCal F (g_law_base T) (F.bindsN fun _ _ _ _ _ _ us hl => match us, hl with | [_, _], _ => rfl) .nil sc_Lbase (fun vs H Q E h => ?_) (fun cdv A outer s H vs Q E hr h => ?_)
  · obtain ⟨G, p, n, i, rfl, _⟩ := h
    rfl
  obtain ⟨G, p, n, i, rfl, hP, hn, i3, q⟩ := h
  have sl : sizeLine = 16777216 := rfl
  have U := uf i3
  refine ⟨_, (pss_cons (ps_set (i := 2) sc_Lbase.nd rfl (Or.inr rfl) (pe_ix ix_str pe_str (pv 1) (fun _ _ => rfl)))
    (pss_cons (ps_setLc (i := 3) (own := [("_law_turn", 8)]) rfl sc_Lbase.nd rfl rfl (sw_true rfl rfl rfl (by decide +kernel)) (pi_range1 (by rfl) (z_range T) (pa_cons (pe_op op_add pe_int (C8.pe_c c_Ldraw hr (by first | decide | omega) rfl (pa_cons (pv 0) (pa_cons pe_int pa_nil)))) pa_nil)) (blkOk_by (N := N_Lbase) (sc := defScope s_Lbase) (by decide +kernel)) (fun _ _ _ _ _ => (pg_name (i := 8) sc_Lbase.nd rfl (Or.inl rfl))) (fun _ _ _ _ _ => pts_nil) (fun _ _ _ _ _ => (pe_op op_add_str (pv 2) (pe_callTy call_str_int (by rfl) (z_str T) boot_str (pa_cons (pv 8) pa_nil)))))
    (pss_cons (ps_set (i := 4) sc_Lbase.nd rfl (Or.inl rfl) (C8.pe_c c_scan hr (by first | decide | omega) rfl (pa_cons (C8.pe_mk m_Table hr (by first | decide | omega) rfl (pa_cons (pe_op op_add_str pe_str (pv 2)) (pa_cons (pv 3) pa_nil))) pa_nil)))
    (pss_cons (ps_set (i := 5) sc_Lbase.nd rfl (Or.inl rfl) (C8.pe_c c_Ldraw hr (by first | decide | omega) rfl (pa_cons (pv 0) (pa_cons pe_int pa_nil))))
    (pss_cons (ps_if (pt_cmpR op_eq (pv 5) pe_int (nomark _)) (pss_one (ps_ret (pe_tup (pa_cons (pv 4) (pa_cons pe_str (pa_cons (pv 3) (pa_cons (pe_lst pa_nil) pa_nil))))))) pss_nil)
    (pss_cons (ps_if (pt_cmpR op_eq (pv 5) pe_int (nomark _)) (pss_one (ps_ret (pe_tup (pa_cons (pe_mtr tr_compute hr (by first | decide | omega) (pv 4) (pa_cons (pe_op op_add_str pe_str (pv 2)) (pa_cons pe_str (pa_cons (pe_ix (ix_listK (K := K) rfl) (pv 3) pe_int (fun _ _ => rfl)) pa_nil)))) (pa_cons pe_str (pa_cons (pe_op op_cat (pv 3) (pe_lst (pa_cons (pe_op op_add_str pe_str (pv 2)) pa_nil))) (pa_cons (pe_lst pa_nil) pa_nil))))))) pss_nil)
    (pss_cons (ps_if (pt_cmpR op_eq (pv 5) pe_int (nomark _)) (pss_cons (ps_set (i := 7) sc_Lbase.nd rfl (Or.inl rfl) (C8.pe_c c_Lsome hr (by first | decide | omega) rfl (pa_cons (pv 0) (pa_cons (pv 3) (pa_cons pe_int pa_nil)))))
    (pss_cons (ps_set (i := 6) sc_Lbase.nd rfl (Or.inl rfl) (pe_ifExp (pt_cmpR op_eq (pe_callB (call_len_seqK (K := K) rfl) (by rfl) (z_len T) boot_len (pa_cons (pv 7) pa_nil)) pe_int (nomark _)) (pe_mtr tr_keep hr (by first | decide | omega) (pv 4) (pa_cons (pe_ix (ix_listK (K := K) rfl) (pv 7) pe_int (fun _ _ => rfl)) pa_nil)) (pe_mtr tr_keep hr (by first | decide | omega) (pv 4) (pa_cons (pe_ix (ix_listK (K := K) rfl) (pv 7) pe_int (fun _ _ => rfl)) (pa_cons (pe_ix (ix_listK (K := K) rfl) (pv 7) pe_int (fun _ _ => rfl)) pa_nil)))))
    (pss_one (ps_ret (pe_tup (pa_cons (pv 6) (pa_cons pe_str (pa_cons (pv 7) (pa_cons (pe_lst pa_nil) pa_nil))))))))) pss_nil)
    (pss_cons (ps_set (i := 6) sc_Lbase.nd rfl (Or.inl rfl) (pe_ix (ix_listK (K := K) rfl) (pe_lst (pa_cons (Dm.pe_mtw wk_group_by_na_sa hr (by first | decide | omega) (pv 4) (pa_cons (pe_ix (ix_listK (K := K) rfl) (pv 3) pe_int (fun _ _ => rfl)) pa_nil) (pk_cons pe_str (pk_cons (pe_tup (pa_cons pe_str (pa_cons (pe_ix (ix_listK (K := K) rfl) (pv 3) (pe_un un_neg pe_int) (fun _ _ => rfl)) pa_nil))) pk_nil))) (pa_cons (Dm.pe_mtw wk_group_by_nb_sb hr (by first | decide | omega) (pv 4) (pa_cons (pe_ix (ix_listK (K := K) rfl) (pv 3) pe_int (fun _ _ => rfl)) pa_nil) (pk_cons pe_str (pk_cons (pe_tup (pa_cons pe_str (pa_cons (pe_ix (ix_listK (K := K) rfl) (pv 3) (pe_un un_neg pe_int) (fun _ _ => rfl)) pa_nil))) pk_nil))) (pa_cons (Dm.pe_mtw wk_group_by_nc_sc hr (by first | decide | omega) (pv 4) (pa_cons (pe_ix (ix_listK (K := K) rfl) (pv 3) pe_int (fun _ _ => rfl)) pa_nil) (pk_cons pe_str (pk_cons (pe_tup (pa_cons pe_str (pa_cons (pe_ix (ix_listK (K := K) rfl) (pv 3) (pe_un un_neg pe_int) (fun _ _ => rfl)) pa_nil))) pk_nil))) pa_nil)))) (pv 1) (fun _ _ => rfl)))
    (pss_one (ps_ret (pe_tup (pa_cons (pv 6) (pa_cons pe_str (pa_cons (pe_lst (pa_cons (pe_ix (ix_listK (K := K) rfl) (pv 3) pe_int (fun _ _ => rfl)) (pa_cons (pe_op op_add_str pe_str (pv 2)) (pa_cons (pe_op op_add_str pe_str (pv 2)) pa_nil)))) (pa_cons (pe_lst (pa_cons (pe_op op_add_str pe_str (pv 2)) (pa_cons (pe_op op_add_str pe_str (pv 2)) pa_nil))) pa_nil))))))))))))))), ?_⟩
  refine ⟨_, rfl, _, (i : Int), 97 + i, rfl, rfl, by decide, abc_at i3, ?_⟩
  refine ⟨_, rfl, G, p, n, 4, rfl, hP, by omega, by decide, by decide, fun d G1 H1 s1 P1 a1 b1 => ?_⟩
  refine ⟨_, _, rfl, rfl, 1 + d, rfl, by omega, by omega, fun D hD => ?_⟩
  have nDp : D ≠ p := fun z => P1.there (by rw [← z]; exact hD)
  have gD := P1.gh.free hD
  have hDH := s1.free hD
  have lt1 : ∀ t : Nat, t < 4 → (lS i).length + (toString (t : Int) : Str).length ≤ sizeLine := fun t ht => by
    have := (U.l t ht).2
    have : (lS i).length = 1 := rfl
    omega
  refine lc_range (lo := 0) (n := (1 + d).toNat) (fun j H' => Step (some p) G H G1 H' ∧ Pq G1 H' p (n + 1) ∧ H' D = some (.lst (sV (colsN i j)))) ⟨s1.loc hDH gD, P1.local_ gD nDp, upd_same⟩ ?_ ?_
  · rintro j H' hj ⟨st, ps, hDy⟩
    refine ⟨rfl, ?_⟩
    unfold tYes
    refine iteT ⟨_, rfl, _, rfl, 0 + (j : Int), rfl, ?_, _, _, rfl, rfl, ?_, _, hDy, by rw [sV_len, colsN_len]; omega, st.loc hDH gD, ps.local_ gD nDp, ?_⟩
    · have hj4 : j < 4 := by omega
      clear ps hDy st
      rcases (show j = 0 ∨ j = 1 ∨ j = 2 ∨ j = 3 by omega) with rfl | rfl | rfl | rfl <;> decide
    · rw [Int.zero_add]
      exact lt1 j (by omega)
    · rw [upd_same, Int.zero_add]
      show some (HO.lst (sV (colsN i j) ++ [V.str (cS i j)])) = some (HO.lst (sV (colsN i (j + 1))))
      rw [← cN_S, show colsN i (j + 1) = colsN i j ++ [cN i j] by rw [colsN, List.range_succ, List.map_append]; rfl, ← sV_app]
      rfl
  rintro H2 ⟨s2, P2, hD2⟩
  generalize hcs : colsN i (1 + d).toNat = cs at hD2
  have cl : cs.length = (1 + d).toNat := by rw [← hcs, colsN_len]
  have cnd : cs.Nodup := by rw [← hcs]; exact colsN_nd i3 (by omega)
  have ccol : ∀ c ∈ cs, c ∈ Ul := fun c hc => by
    rw [← hcs] at hc
    obtain ⟨t, ht, rfl⟩ := colsN_mem hc
    exact U.c t (by omega)
  have cok : OkC cs := by rw [← hcs]; exact colsN_ok i3 (by omega) (by omega)
  have cne : ∀ c ∈ cs, c ≠ fN "x" i ∧ c ≠ fN "n" i ∧ c ≠ fN "s" i := fun c hc => by
    rw [← hcs] at hc
    obtain ⟨t, ht, rfl⟩ := colsN_mem hc
    exact U.ne t (by omega)
  have cnx : ∀ c ∈ cs, ∀ j < 3, c ≠ fN "n" j ∧ c ≠ fN "s" j := fun c hc j hj => by
    rw [← hcs] at hc
    obtain ⟨t, ht, rfl⟩ := colsN_mem hc
    exact cN_ne i3 (by omega) hj
  obtain ⟨c0, rs, rfl⟩ : ∃ c0 rs, cs = c0 :: rs := by
    cases cs with
    | nil => simp at cl; omega
    | cons z r => exact ⟨z, r, rfl⟩
  generalize hcS : c0 :: rs = cs at *
  have c0m : c0 ∈ cs := by rw [← hcS]; exact List.mem_cons_self
  have sF := s2.freeze (q := D) hDH hD2 gD
  have PF := P2.frz hD2 gD nDp
  have gl : upd G1 D (.lst (sV cs)) D = some (.lst (sV cs)) := upd_same
  generalize upd G1 D (.lst (sV cs)) = G2 at *
  clear hcs s1 s2 P1 P2 lt1 hD hDH gD
  have okb : Ok ⟨fN "t" i, cs, [], .anyhow⟩ := ⟨U.t, cok, ⟨fun z hz => (by cases hz), List.nodup_nil⟩, ⟨fun r ds e => by cases e⟩⟩
  -- the table
  refine ⟨_, rfl, _, _, rfl, rfl, by show 1 + 1 ≤ sizeLine; decide, _, rfl, fun x dx hx hdx ne => ?_⟩
  refine mkR (b := ⟨fN "t" i, cs, [], .anyhow⟩) (fN_S "t" i).symm PF.gh (SqL.of (PF.gh _ _ gl)) (.inr (Hd.tupAtB_ok (ex_8 T) _)) (by show SqT K _ _ [.str (S _)]; have := Hd.tupAtB_ok (ex_9 T) G2; rw [anyhow_] at this; exact this) okb (fun G3 H3 s3 tb => ⟨rfl, ?_⟩) hx hdx ne
  have P3 := PF.step s3
  refine ⟨G3, x, _, rfl, P3.gh, tb, okb, fun G4 H4 x1 s4 at1 _ => ?_⟩
  have P4 := P3.step s4
  have gl4 := s4.gg _ _ (s3.gg _ _ gl)
  have sF4 := (sF.trans s3.some_).trans s4.some_
  clear s3 s4 P3 PF sF tb
  have at1 : StAt K (CSt K) G4 x1 (st0 cs) [] := at1
  have gd0 : Good (st0 cs) := good0 cnd (by omega) ccol
  obtain ⟨dx1, fs1, h1, hno⟩ := at1.obj
  refine ⟨_, rfl, G4, p, n + 1, 4, rfl, P4, by omega, by decide, by decide, fun wy G5 H5 s5 P5 a5 b5 => ?_⟩
  have s05 := sF4.trans s5
  have gl5 := s5.gg _ _ gl4
  have at5 := at1.same s5.gg
  have h5 := P5.gh _ _ (s5.gg _ _ h1)
  clear s5 P4 gl4 sF4 at1 h1
  have e0 : atI (sV cs) 0 = some (.str (S c0)) := by rw [← hcS]; exact atI_nat (j := 0) rfl
  have kS : PyData.strOk (S kScan) = true := by decide +kernel
  refine ⟨_, rfl, rfl, _, rfl, ite2 (fun e => ?_) (fun e => ?_)⟩
  · refine ⟨_, rfl, _, rfl, by show 0 ≤ sizeLine; decide, fun e0 he0 => ?_⟩
    obtain ⟨s6, P6⟩ := P5.new_ (o := .lst (sV [])) he0
    have ge6 : upd G5 e0 (.lst (sV [])) e0 = some (.lst (sV [])) := upd_same
    have gl6 := s6.gg _ _ gl5
    have at6 := at5.same s6.gg
    generalize upd G5 e0 (.lst (sV [])) = G6 at *
    refine ⟨by show 4 ≤ sizeLine; decide, fun t ht => ?_⟩
    have eT : [V.ref x1, .str "scan", .ref D, .ref e0] = [V.ref x1, .str (S kScan), .ref D, .ref e0] := by rw [kScan_]
    rw [eT]
    obtain ⟨s7, P7⟩ := P6.new_ (o := .tup [V.ref x1, .str (S kScan), .ref D, .ref e0]) ht
    exact q t _ _ ((s05.trans s6).trans s7) (P7.mono (by omega)) ⟨x1, st0 cs, ⟨D, e0, [], [], upd_same, s7.gg _ _ gl6, s7.gg _ _ ge6, at6.same s7.gg, .inl rfl⟩, gd0⟩
  refine ⟨_, rfl, rfl, _, rfl, ite2 (fun e => ?_) (fun e => ?_)⟩
  · have nin : fN "x" i ∉ cs := fun z => (cne _ z).1 rfl
    refine ⟨_, rfl, x1, dx1, fs1, rfl, h5, hno _ (by decide +kernel), _, rfl, _, _, rfl, rfl, by show 1 + 1 ≤ sizeLine; decide, _, rfl, D, _, 0, _, rfl, rfl, SqL.of (P5.gh _ _ gl5), e0, [V.ref x1, V.str (fS "x" i), V.str "f"], [V.str (S c0)], rfl, rfl, by show 1 ≤ sizeLine; decide, fun pa hpa => ?_⟩
    have P6 := (P5.loc (o := .tup [V.str (S c0)]) hpa).2
    have s6 := (P5.loc (o := .tup [V.str (S c0)]) hpa).1
    refine ⟨G5, x1, pa, fN "x" i, wF, st0 cs, [], [c0], by rw [fN_S, ← wF_]; rfl, Ul_nm _ U.x, wF_nm, nin, P6.gh, at5, gd0.ok, SqT.of upd_same, fun c hc => ⟨by rw [List.mem_singleton.mp hc]; exact c0m, fun z => by cases z⟩, by simp, by simp, fun c hc => by rw [List.mem_singleton.mp hc, dep0 c0m]; decide, fun m mx G6 H6 x2 s7 at2 _ => ?_⟩
    have m0 : m ≤ 2 := by
      obtain ⟨y, hy, rfl⟩ := mx.1
      rw [List.mem_singleton.mp hy, dep0 c0m]
      decide
    have P7 := P6.step s7
    have s57 := (s05.trans s6).trans s7.some_
    have gl7 := s7.gg _ _ gl5
    have at2 : StAt K (CSt K) G6 x2 ⟨kCompute, cs ++ [fN "x" i], [], zd cs ++ [(fN "x" i, 1 + m)]⟩ [.ref x1] := at2
    clear P6 s6 s7 at5 h5 s05 P5 gl5
    refine ⟨_, rfl, _, rfl, _, _, rfl, rfl, by show 1 + 1 ≤ sizeLine; decide, by show 1 ≤ sizeLine; decide, fun b hb => ?_⟩
    obtain ⟨s8, P8⟩ := P7.loc (o := .lst [V.str (("x" : Str) ++ (⟨#[97 + i]⟩ : Str))]) hb
    have hb8 : upd H6 b (.lst [V.str (("x" : Str) ++ (⟨#[97 + i]⟩ : Str))]) b = some (.lst (sV [fN "x" i])) := by rw [upd_same]; show some (HO.lst [V.str (fS "x" i)]) = _; rw [← fN_S]; rfl
    have s58 := s57.trans s8
    generalize upd H6 b (.lst [V.str (("x" : Str) ++ (⟨#[97 + i]⟩ : Str))]) = H7 at *
    refine ⟨D, b, sV cs, sV [fN "x" i], rfl, rfl, P8.gh _ _ gl7, hb8, by rw [sV_len, sV_len]; show cs.length + 1 ≤ _; omega, fun e2 he2 => ?_⟩
    rw [sV_app]
    obtain ⟨s9, P9⟩ := P8.new_ (o := .lst (sV (cs ++ [fN "x" i]))) he2
    have ge9 : upd G6 e2 (.lst (sV (cs ++ [fN "x" i]))) e2 = some (.lst (sV (cs ++ [fN "x" i]))) := upd_same
    have at3 := at2.same s9.gg
    have s59 := s58.trans s9
    generalize upd G6 e2 (.lst (sV (cs ++ [fN "x" i]))) = G7 at *
    generalize upd H7 e2 (.lst (sV (cs ++ [fN "x" i]))) = H8 at *
    refine ⟨by show 0 ≤ sizeLine; decide, fun e4 he4 => ?_⟩
    obtain ⟨s10, P10⟩ := P9.new_ (o := .lst (sV [])) he4
    have gz : upd G7 e4 (.lst (sV [])) e4 = some (.lst (sV [])) := upd_same
    have ge10 := s10.gg _ _ ge9
    have at4 := at3.same s10.gg
    have s60 := s59.trans s10
    generalize upd G7 e4 (.lst (sV [])) = G8 at *
    refine ⟨by show 4 ≤ sizeLine; decide, fun t ht => ?_⟩
    have eT : [V.ref x2, .str "compute", .ref e2, .ref e4] = [V.ref x2, .str (S kCompute), .ref e2, .ref e4] := by rw [kCompute_]
    rw [eT]
    obtain ⟨s11, P11⟩ := P10.new_ (o := .tup [V.ref x2, .str (S kCompute), .ref e2, .ref e4]) ht
    exact q t _ _ (s60.trans s11) (P11.mono (by omega)) ⟨x2, _, ⟨e2, e4, [], _, upd_same, s11.gg _ _ ge10, s11.gg _ _ gz, at4.same s11.gg, .inl rfl⟩, good_cmp cnd ccol U.x nin m0⟩
  refine ⟨_, rfl, rfl, _, rfl, ite2 (fun e => ?_) (fun e => ?_)⟩
  · have cln : cs.length ≤ 4 := by omega
    refine ⟨_, rfl, _, rfl, G5, p, D, n + 1 + 1, cs, 2, rfl, P5, by omega, P5.gh _ _ gl5, cnd, by omega, by omega, by decide, by decide, fun l ys G6 H6 s6 P6 gy sub y1 y2 => ?_⟩
    have s06 := s05.trans s6
    have at6 := at5.same s6.gg
    obtain ⟨dx6, fs6, h6, hno6⟩ := at6.obj
    have h6 := P6.gh _ _ h6
    have keep : ∀ (x2 : Addr) (G7 H7 : Hp), Step (some p) G H G7 H7 → Pq G7 H7 p (n + 1 + 1 + 10) → G7 l = some (.lst (sV ys)) → StAt K (CSt K) G7 x2 ⟨kKeep, ys, ys.filter fun x => decide (x ∈ (st0 cs).ms), dsOf (st0 cs) (ys.filter fun x => !decide (x ∈ (st0 cs).ms))⟩ [.ref x1] →
        ∀ e4, H7 e4 = none → ∀ t, upd H7 e4 (.lst (sV [])) t = none → Q (.ref t) (upd (upd H7 e4 (.lst (sV []))) t (.tup [V.ref x2, .str (S kKeep), .ref l, .ref e4])) := fun x2 G7 H7 s7 P7 gl7 at7 e4 he4 t ht => by
      have f1 : (ys.filter fun x => decide (x ∈ (st0 cs).ms)) = [] := List.filter_eq_nil_iff.mpr fun x _ => by show ¬ (decide (x ∈ ([] : List (List Nat))) = true); simp
      have f2 : (ys.filter fun x => !decide (x ∈ (st0 cs).ms)) = ys := List.filter_eq_self.mpr fun x _ => by show (!decide (x ∈ ([] : List (List Nat)))) = true; simp
      rw [f1, f2] at at7
      obtain ⟨s10, P10⟩ := P7.new_ (o := .lst (sV [])) he4
      have gz : upd G7 e4 (.lst (sV [])) e4 = some (.lst (sV [])) := upd_same
      have ge10 := s10.gg _ _ gl7
      have at4 := at7.same s10.gg
      have s60 := s7.trans s10
      generalize upd G7 e4 (.lst (sV [])) = G8 at *
      generalize upd H7 e4 (.lst (sV [])) = H8 at *
      obtain ⟨s11, P11⟩ := P10.new_ (o := .tup [V.ref x2, .str (S kKeep), .ref l, .ref e4]) ht
      exact q t _ _ (s60.trans s11) (P11.mono (by omega)) ⟨x2, _, ⟨l, e4, [], _, upd_same, s11.gg _ _ ge10, s11.gg _ _ gz, at4.same s11.gg, .inl rfl⟩, good_keep sub.nd y1 sub.mem ccol⟩
    have hl6 := P6.gh _ _ gy
    have eT : ∀ x2 e4 : Addr, [V.ref x2, .str "keep", .ref l, .ref e4] = [V.ref x2, .str (S kKeep), .ref l, .ref e4] := fun _ _ => by rw [kKeep_]
    refine ⟨_, rfl, l, _, rfl, .inl (SqL.of hl6), rfl, _, rfl, lenIf 1 (fun e1 => ?_) (fun e1 => ?_)⟩
    · obtain ⟨y, rfl⟩ : ∃ y, ys = [y] := List.length_eq_one_iff.mp e1
      refine ⟨_, rfl, x1, dx6, fs6, rfl, h6, hno6 _ (by decide +kernel), _, rfl, l, _, 0, _, rfl, rfl, SqL.of hl6, atI_nat (j := 0) rfl, [V.ref x1], [V.str (S y)], rfl, rfl, by show 1 ≤ sizeLine; decide, fun pa hpa => ?_⟩
      obtain ⟨s7, P7⟩ := P6.loc (o := .tup [V.str (S y)]) hpa
      refine ⟨G6, x1, pa, st0 cs, [], [y], rfl, P7.gh, at6, gd0.ok, SqT.of upd_same, sub.mem, sub.nd, y1, by simp, fun G7 H7 x2 s8 at7 _ => ?_⟩
      refine ⟨_, rfl, _, rfl, by show 0 ≤ sizeLine; decide, fun e4 he4 => ⟨by show 4 ≤ sizeLine; decide, fun t ht => ?_⟩⟩
      rw [eT]
      exact keep x2 G7 H7 ((s06.trans s7).trans s8.some_) (P7.step s8) (s8.gg _ _ gy) at7 e4 he4 t ht
    · obtain ⟨y, z, rfl⟩ : ∃ y z, ys = [y, z] := two_of (by omega)
      refine ⟨_, rfl, x1, dx6, fs6, rfl, h6, hno6 _ (by decide +kernel), _, rfl, l, _, 0, _, rfl, rfl, SqL.of hl6, atI_nat (j := 0) rfl, _, rfl, l, _, 1, _, rfl, rfl, SqL.of hl6, atI_nat (j := 1) rfl, [V.ref x1], [V.str (S y), V.str (S z)], rfl, rfl, by show 2 ≤ sizeLine; decide, fun pa hpa => ?_⟩
      obtain ⟨s7, P7⟩ := P6.loc (o := .tup [V.str (S y), V.str (S z)]) hpa
      refine ⟨G6, x1, pa, st0 cs, [], [y, z], rfl, P7.gh, at6, gd0.ok, SqT.of upd_same, sub.mem, sub.nd, y1, by simp, fun G7 H7 x2 s8 at7 _ => ?_⟩
      refine ⟨_, rfl, _, rfl, by show 0 ≤ sizeLine; decide, fun e4 he4 => ⟨by show 4 ≤ sizeLine; decide, fun t ht => ?_⟩⟩
      rw [eT]
      exact keep x2 G7 H7 ((s06.trans s7).trans s8.some_) (P7.step s8) (s8.gg _ _ gy) at7 e4 he4 t ht
  -- the groups
  obtain ⟨cl', clm, eL⟩ : ∃ c, c ∈ cs ∧ atI (sV cs) (-1) = some (.str (S c)) := by
    have hne : cs ≠ [] := by rw [← hcS]; exact List.cons_ne_nil _ _
    refine ⟨cs.getLast hne, List.getLast_mem hne, ?_⟩
    have e : sV cs = sV cs.dropLast ++ [V.str (S (cs.getLast hne))] := by rw [show [V.str (S (cs.getLast hne))] = sV [cs.getLast hne] from rfl, sV_app, List.dropLast_concat_getLast]
    rw [e, atI_last]
  have ok0 := fun (j : Nat) (hj : j < 3) => gr_ok (n := fN "n" j) (s := fN "s" j) c0m clm ccol (uf hj).n (uf hj).s (cnx c0 c0m j hj).1 (cnx c0 c0m j hj).2 (uf hj).ns
  obtain ⟨z1, z2, z3, z4, z5, z6⟩ := na_
  have hD5 := P5.gh _ _ gl5
  refine ⟨_, rfl, x1, dx1, fs1, rfl, h5, hno _ (by decide +kernel), _, rfl, D, _, 0, _, rfl, rfl, SqL.of hD5, e0, _, rfl, _, rfl, D, _, -1, _, rfl, rfl, SqL.of hD5, eL, by show 2 ≤ sizeLine; decide, fun t ht => ?_⟩
  obtain ⟨s6, P6⟩ := P5.loc (o := .tup [.str "sum", .str (S cl')]) ht
  have ht6 : upd H5 t (.tup [.str "sum", .str (S cl')]) t = some (.tup [.str "sum", .str (S cl')]) := upd_same
  have s06 := s05.trans s6
  generalize upd H5 t (.tup [.str "sum", .str (S cl')]) = H6 at *
  refine ⟨rfl, by show 1 ≤ sizeLine; decide, grpCall P6.gh at5 gd0.ok (.cons (kvN' z1) (.cons (kvS' z2 ht6) .nil)) (ok0 0 (by decide)) fun G7 H7 xa s7 ata _ => ?_⟩
  have P7 := P6.step s7
  have s07 := s06.trans s7.some_
  have gl7 := s7.gg _ _ gl5
  have hD7 := P7.gh _ _ gl7
  have at7 := at5.same s7.gg
  obtain ⟨dx7, fs7, g7, hno7⟩ := id at7.obj
  have h7 := P7.gh _ _ g7
  refine ⟨_, rfl, x1, dx7, fs7, rfl, h7, hno7 _ (by decide +kernel), _, rfl, D, _, 0, _, rfl, rfl, SqL.of hD7, e0, _, rfl, _, rfl, D, _, -1, _, rfl, rfl, SqL.of hD7, eL, by show 2 ≤ sizeLine; decide, fun t2 ht2 => ?_⟩
  obtain ⟨s8, P8⟩ := P7.loc (o := .tup [.str "sum", .str (S cl')]) ht2
  have ht8 : upd H7 t2 (.tup [.str "sum", .str (S cl')]) t2 = some (.tup [.str "sum", .str (S cl')]) := upd_same
  have s08 := s07.trans s8
  generalize upd H7 t2 (.tup [.str "sum", .str (S cl')]) = H8 at *
  refine ⟨rfl, by show 1 ≤ sizeLine; decide, grpCall P8.gh at7 gd0.ok (.cons (kvN' z3) (.cons (kvS' z4 ht8) .nil)) (ok0 1 (by decide)) fun G9 H9 xb s9 atb _ => ?_⟩
  have P9 := P8.step s9
  have s09 := s08.trans s9.some_
  have gl9 := s9.gg _ _ gl7
  have hD9 := P9.gh _ _ gl9
  have at9 := at7.same s9.gg
  have ata9 := ata.same s9.gg
  obtain ⟨dx9, fs9, g9, hno9⟩ := id at9.obj
  have h9 := P9.gh _ _ g9
  refine ⟨_, rfl, x1, dx9, fs9, rfl, h9, hno9 _ (by decide +kernel), _, rfl, D, _, 0, _, rfl, rfl, SqL.of hD9, e0, _, rfl, _, rfl, D, _, -1, _, rfl, rfl, SqL.of hD9, eL, by show 2 ≤ sizeLine; decide, fun t3 ht3 => ?_⟩
  obtain ⟨s10, P10⟩ := P9.loc (o := .tup [.str "sum", .str (S cl')]) ht3
  have ht10 : upd H9 t3 (.tup [.str "sum", .str (S cl')]) t3 = some (.tup [.str "sum", .str (S cl')]) := upd_same
  have s010 := s09.trans s10
  generalize upd H9 t3 (.tup [.str "sum", .str (S cl')]) = H10 at *
  refine ⟨rfl, by show 1 ≤ sizeLine; decide, grpCall P10.gh at9 gd0.ok (.cons (kvN' z5) (.cons (kvS' z6 ht10) .nil)) (ok0 2 (by decide)) fun G11 H11 xc s11 atc _ => ?_⟩
  have P11 := P10.step s11
  have s011 := s010.trans s11.some_
  have gl11 := s11.gg _ _ gl9
  have atb11 := atb.same s11.gg
  have ata11 := ata9.same s11.gg
  clear ata ata9 atb at5 at7 at9 s6 s7 s8 s9 s10 s11 P5 P6 P7 P8 P9 P10 s05 s06 s07 s08 s09 s010 ht6 ht8 ht10 h5 h7 h9 g7 g9 hD5 hD7 hD9 gl5 gl7 gl9
  refine ⟨by show 3 ≤ sizeLine; decide, fun L hL => ?_⟩
  obtain ⟨s12, P12⟩ := P11.loc (o := .lst [.ref xa, .ref xb, .ref xc]) hL
  have hL12 : upd H11 L (.lst [.ref xa, .ref xb, .ref xc]) L = some (.lst [.ref xa, .ref xb, .ref xc]) := upd_same
  have s012 := s011.trans s12
  generalize upd H11 L (.lst [.ref xa, .ref xb, .ref xc]) = H12 at *
  obtain ⟨xk, hxk, atk⟩ : ∃ xk : Addr, atI [V.ref xa, .ref xb, .ref xc] (i : Int) = some (.ref xk) ∧ StAt K (CSt K) G11 xk (grSt (st0 cs) [c0] [(fN "n" i, none), (fN "s" i, some cl')]) [.ref x1] := by
    rcases (show i = 0 ∨ i = 1 ∨ i = 2 by omega) with rfl | rfl | rfl
    · exact ⟨xa, atI_nat (j := 0) rfl, ata11⟩
    · exact ⟨xb, atI_nat (j := 1) rfl, atb11⟩
    · exact ⟨xc, atI_nat (j := 2) rfl, atc⟩
  clear ata11 atb11 atc
  refine ⟨_, rfl, L, _, (i : Int), _, rfl, rfl, SqL.of hL12, hxk, ?_⟩
  refine ⟨_, rfl, _, rfl, D, _, 0, _, rfl, rfl, SqL.of (P12.gh _ _ gl11), e0, _, rfl, _, _, rfl, rfl, by show 1 + 1 ≤ sizeLine; decide, _, rfl, _, _, rfl, rfl, by show 1 + 1 ≤ sizeLine; decide, by show 3 ≤ sizeLine; decide, fun e2 he2 => ?_⟩
  have eC : [V.str (S c0), V.str (("n" : Str) ++ (⟨#[97 + i]⟩ : Str)), V.str (("s" : Str) ++ (⟨#[97 + i]⟩ : Str))] = sV [c0, fN "n" i, fN "s" i] := by
    show [V.str (S c0), V.str (fS "n" i), V.str (fS "s" i)] = _
    rw [← fN_S, ← fN_S]
    rfl
  have eM : [V.str (("n" : Str) ++ (⟨#[97 + i]⟩ : Str)), V.str (("s" : Str) ++ (⟨#[97 + i]⟩ : Str))] = sV [fN "n" i, fN "s" i] := by
    show [V.str (fS "n" i), V.str (fS "s" i)] = _
    rw [← fN_S, ← fN_S]
    rfl
  rw [eC]
  obtain ⟨s13, P13⟩ := P12.new_ (o := .lst (sV [c0, fN "n" i, fN "s" i])) he2
  have ge13 : upd G11 e2 (.lst (sV [c0, fN "n" i, fN "s" i])) e2 = some (.lst (sV [c0, fN "n" i, fN "s" i])) := upd_same
  have at13 := atk.same s13.gg
  have s013 := s012.trans s13
  generalize upd G11 e2 (.lst (sV [c0, fN "n" i, fN "s" i])) = G13 at *
  generalize upd H12 e2 (.lst (sV [c0, fN "n" i, fN "s" i])) = H13 at *
  refine ⟨_, rfl, _, _, rfl, rfl, by show 1 + 1 ≤ sizeLine; decide, _, rfl, _, _, rfl, rfl, by show 1 + 1 ≤ sizeLine; decide, by show 2 ≤ sizeLine; decide, fun e4 he4 => ?_⟩
  rw [eM]
  obtain ⟨s14, P14⟩ := P13.new_ (o := .lst (sV [fN "n" i, fN "s" i])) he4
  have ge14 : upd G13 e4 (.lst (sV [fN "n" i, fN "s" i])) e4 = some (.lst (sV [fN "n" i, fN "s" i])) := upd_same
  have at14 := at13.same s14.gg
  have gc14 := s14.gg _ _ ge13
  have s014 := s013.trans s14
  generalize upd G13 e4 (.lst (sV [fN "n" i, fN "s" i])) = G14 at *
  generalize upd H13 e4 (.lst (sV [fN "n" i, fN "s" i])) = H14 at *
  refine ⟨by show 4 ≤ sizeLine; decide, fun t5 ht5 => ?_⟩
  have eT : [V.ref xk, .str "group", .ref e2, .ref e4] = [V.ref xk, .str (S kGroup), .ref e2, .ref e4] := by rw [kGroup_]
  rw [eT]
  obtain ⟨s15, P15⟩ := P14.new_ (o := .tup [V.ref xk, .str (S kGroup), .ref e2, .ref e4]) ht5
  exact q t5 _ _ (s014.trans s15) (P15.mono (by omega)) ⟨xk, _, ⟨e2, e4, [], _, upd_same, s15.gg _ _ gc14, s15.gg _ _ ge14, at14.same s15.gg, .inl rfl⟩, good_grp c0m ccol U.n U.s (cnx c0 c0m i i3).1 (cnx c0 c0m i i3).2 U.ns⟩
end Pf
namespace Bs
open PySem PySem.Spec PyProof.Rows L2 SX
variable {P : Program} {w : World} {K : PySem.W.Frag} {mg : Str → Option Value} {base : Heap}
abbrev cpD (q : List Nat × List Nat) : PyData := .tuple [.str (S q.1), .str (S q.2)]
theorem prD_refl (q : List Nat × List Nat) : (cpD q).eqv (cpD q) = true := by simp [PyData.eqv, PyData.eqvAll]
theorem prD_lay {q : List Nat × List Nat} (h1 : Nm q.1) (h2 : Nm q.2) : PyData.canLay0 (cpD q) = true ∧ PyData.depth (cpD q) ≤ 1 := by
  obtain ⟨a1, a2⟩ := lay_strs (xs := [q.1, q.2]) fun x hx => by
    simp only [List.mem_cons, List.mem_nil_iff, or_false] at hx
    rcases hx with rfl | rfl
    · exact h1
    · exact h2
  refine ⟨?_, ?_⟩
  · rw [PyData.canLay0]; exact a1
  · show PyData.depth (.tuple (strsD [q.1, q.2])) ≤ 1
    rw [PyData.depth, a2]; omega
theorem prsD_lay : ∀ {qs : List (List Nat × List Nat)}, (∀ q ∈ qs, Nm q.1 ∧ Nm q.2) → PyData.canLayAll0 (qs.map cpD) = true ∧ PyData.depthAll (qs.map cpD) ≤ 1
  | [], _ => ⟨by simp [PyData.canLayAll0], by simp [PyData.depthAll]⟩
  | q :: r, h => by
    obtain ⟨h1, h2⟩ := prsD_lay (qs := r) fun z hz => h z (List.mem_cons_of_mem _ hz)
    obtain ⟨h3, h4⟩ := prD_lay (h q List.mem_cons_self).1 (h q List.mem_cons_self).2
    refine ⟨?_, ?_⟩
    · rw [List.map_cons, PyData.canLayAll0, h3, h1]; rfl
    · rw [List.map_cons, PyData.depthAll]; omega
theorem prs_dp {H : Hp} : ∀ {ps : List Pr}, (∀ q ∈ ps, SqT K H q.1 [.str (S q.2.1), .str (S q.2.2)]) → DpAll K H (ps.map fun q => V.ref q.1) ((ps.map (·.2)).map cpD)
  | [], _ => .nil
  | q :: r, h => .cons (.tup (h q List.mem_cons_self) (.cons (.str _) (.cons (.str _) .nil))) (prs_dp fun z hz => h z (List.mem_cons_of_mem _ hz))
theorem shp_of {d : PyData} (h1 : PyData.canLay0 d = true) (h2 : PyData.depth d ≤ 4) : SeqAt.shaped d = true := by
  unfold SeqAt.shaped
  rw [h1, Bool.true_and, decide_eq_true_eq]
  omega
theorem sV_mem {xs : List (List Nat)} {v : V} (h : v ∈ sV xs) : ∃ k ∈ xs, v = .str (S k) := by
  obtain ⟨s, hs, rfl⟩ := List.mem_map.mp h
  obtain ⟨k, hk, rfl⟩ := List.mem_map.mp hs
  exact ⟨k, hk, rfl⟩
abbrev plainOf (st : Stp) : List (List Nat) := st.cs.filter fun x => !decide (x ∈ st.ms)
def spLPairs (K : PySem.W.Frag) (C : Addr) : Sp := fun vs H Q _ => ∃ (G : Hp) (p o x o2 x2 : Addr) (n : Nat) (st st2 : Stp), vs = [.ref p, .ref o, .ref o2] ∧ Pq G H p n ∧ n ≤ 800000 ∧ OneB K C G o x st ∧ OneB K C G o2 x2 st2 ∧ Good st ∧ Good st2 ∧
  (∀ (G' H' : Hp), Step (some p) G H G' H' → Pq G' H' p (n + 10) → Q .non H') ∧
  ∀ (l : Addr) (ps : List Pr) (G' H' : Hp), Step (some p) G H G' H' → Pq G' H' p (n + 10) → PsAt K G' l ps → PrOk st st2 ps → Q (.ref l) H'
end Bs
namespace Pf
open PySem PySem.Spec PyProof.Rows L2 Bs SX
variable {P : Program} {w : World} {K : PySem.W.Frag} {mg : Str → Option Value} {base : Heap}
abbrev N_Lpairs : List Str := ["_law_pen_here", "_law_one", "_law_other", "_law_first", "_law_last", "_law_found", "_law_turn", "_law_pair", "_law_name"]
theorem sc_Lpairs : FnScope N_Lpairs ["_law_pen_here", "_law_one", "_law_other"] (defScope s_Lpairs) := ⟨rfl, rfl, rfl, by decide +kernel, rfl, by decide +kernel, by decide +kernel⟩
theorem c_Lpairs (T : Tx K mg) : C8.Cal P w K mg base 3 "_law_pairs" (spLPairs K (CSt K)) [] := by
  obtain ⟨fd, F⟩ := f_Lpairs T
  have c_Ldraw := c_Ldraw (P := P) (w := w) (base := base) T
  have c_Lpick := c_Lpick (P := P) (w := w) (base := base) T
  refine mkCal F (g_law_pairs T) (F.bindsN fun _ _ _ _ _ _ us hl => match us, hl with | [_, _, _], _ => rfl) .nil sc_Lpairs (fun vs H Q E h => ?_) (fun cdv A outer s H vs Q E hr h => ?_)
  · obtain ⟨G, p, o, x, o2, x2, n, st, st2, rfl, _⟩ := h
    rfl
  obtain ⟨G, p, o, x, o2, x2, n, st, st2, rfl, hP, hn, ho, ho2, gd, gd2, qn, q⟩ := h
  obtain ⟨c, m, r, ins, g1, g2, g3, _⟩ := ho
  obtain ⟨c', m', r', ins', k1, k2, k3, _⟩ := ho2
  have sl : sizeLine = 16777216 := rfl
  have ln := gd.ok.ln
  have ln2 := gd2.ok.ln
  refine ⟨_, (pss_cons (ps_setLc (i := 3) (own := [("_law_name", 8)]) rfl sc_Lpairs.nd rfl rfl (sw_true rfl rfl rfl (by decide +kernel)) (pi_listK (K := K) rfl (pe_ix (ix_tupK (K := K) rfl) (pv 1) pe_int (fun _ _ => rfl))) (blkOk_by (N := N_Lpairs) (sc := defScope s_Lpairs) (by decide +kernel)) (fun _ _ _ _ _ => (pg_name (i := 8) sc_Lpairs.nd rfl (Or.inl rfl))) (fun _ _ _ _ _ => pts_one (pt_cmpR (op_notIn_seqK (K := K) rfl) (pv 8) (pe_ix (ix_tupK (K := K) rfl) (pv 1) pe_int (fun _ _ => rfl)) (by rfl))) (fun _ _ _ _ _ => (pv 8)))
    (pss_cons (ps_setLc (i := 4) (own := [("_law_name", 8)]) rfl sc_Lpairs.nd rfl rfl (sw_true rfl rfl rfl (by decide +kernel)) (pi_listK (K := K) rfl (pe_ix (ix_tupK (K := K) rfl) (pv 2) pe_int (fun _ _ => rfl))) (blkOk_by (N := N_Lpairs) (sc := defScope s_Lpairs) (by decide +kernel)) (fun _ _ _ _ _ => (pg_name (i := 8) sc_Lpairs.nd rfl (Or.inl rfl))) (fun _ _ _ _ _ => pts_one (pt_cmpR (op_notIn_seqK (K := K) rfl) (pv 8) (pe_ix (ix_tupK (K := K) rfl) (pv 2) pe_int (fun _ _ => rfl)) (by rfl))) (fun _ _ _ _ _ => (pv 8)))
    (pss_cons (ps_if (PW.pt (pw_or (pt_cmpR (op_eqD hr.units) (pv 3) (pe_lst pa_nil) (nomark _)) (pw_or1 (pt_cmpR (op_eqD hr.units) (pv 4) (pe_lst pa_nil) (nomark _))))) (pss_one (ps_ret pe_non)) pss_nil)
    (pss_cons (ps_set (i := 5) sc_Lpairs.nd rfl (Or.inl rfl) (pe_lst pa_nil))
    (pss_cons (ps_for PassesOwn.never rfl (pi_range1 (by rfl) (z_range T) (pa_cons (pe_op op_add pe_int (C8.pe_c c_Ldraw hr (by first | decide | omega) rfl (pa_cons (pv 0) (pa_cons pe_int pa_nil)))) pa_nil)) (pg_name (i := 6) sc_Lpairs.nd rfl (Or.inl rfl)) (pss_cons (ps_set (i := 7) sc_Lpairs.nd rfl (Or.inl rfl) (pe_tup (pa_cons (C8.pe_c c_Lpick hr (by first | decide | omega) rfl (pa_cons (pv 0) (pa_cons (pv 3) pa_nil))) (pa_cons (C8.pe_c c_Lpick hr (by first | decide | omega) rfl (pa_cons (pv 0) (pa_cons (pv 4) pa_nil))) pa_nil))))
    (pss_one (ps_if (pt_cmpR (op_notInD (lt65 hr)) (pv 7) (pv 5) (by rfl)) (pss_one (ps_expr (pe_bm PySem.F.plainAttrs_list PySem.F.slot_list_append PySem.F.type_list_append mt_append (pv 5) (pa_cons (pv 7) pa_nil)))) pss_nil))))
    (pss_one (ps_ret (pv 5)))))))), ?_⟩
  -- the plain columns of each
  have hg := hP.gh
  refine ⟨_, rfl, o, _, 2, _, rfl, rfl, SqT.of (hg _ _ g1), atI_nat (j := 2) rfl, c, rfl, ⟨_, SqL.of (hg _ _ g2)⟩, fun D hD => ?_⟩
  have nDp : D ≠ p := fun z => hP.there (by rw [← z]; exact hD)
  have gD := hg.free hD
  refine lc_list (K := K) (a := c) (xs := sV st.cs) (fun i H' => Step (some p) G H G H' ∧ Pq G H' p n ∧ H' D = some (.lst (sV ((st.cs.take i).filter fun x => !decide (x ∈ st.ms))))) ⟨(hP.loc hD).1, (hP.loc hD).2, upd_same⟩ ?_ ?_ ?_
  · rintro i H' _ ⟨s', P', _⟩
    exact SqL.of (P'.gh _ _ g2)
  · rintro i y H' hx ⟨s', P', hL⟩
    obtain ⟨k, mk, rfl, hi⟩ := sV_at' hx
    refine ⟨rfl, ?_⟩
    refine ⟨_, rfl, _, rfl, o, _, 3, _, rfl, rfl, SqT.of (P'.gh _ _ g1), atI_nat (j := 3) rfl, m, sV st.ms, rfl, .inl (SqL.of (P'.gh _ _ g3)), rfl, sV_flat _, _, rfl, ?_⟩
    have e1 : (!inV (.str (S k)) (sV st.ms)) = !decide (k ∈ st.ms) := by rw [inV_sV]
    have e2 := filter_take (f := fun x => !decide (x ∈ st.ms)) mk
    refine ite2 (fun hb => ?_) (fun hb => ?_)
    · have hb : (!decide (k ∈ st.ms)) = true := e1.symm.trans hb
      refine ⟨_, rfl, _, hL, by rw [sV_len]; have := List.length_filter_le (fun x => !decide (x ∈ st.ms)) (st.cs.take i); rw [List.length_take] at this; omega, s'.loc hD gD, P'.local_ gD nDp, ?_⟩
      rw [upd_same, e2, if_pos hb, ← sV_app]
      rfl
    · have hb : ¬ (!decide (k ∈ st.ms)) = true := fun z => hb (e1.trans z)
      refine ⟨s', P', ?_⟩
      rw [e2, if_neg hb, List.append_nil]
      exact hL
  rintro H1 ⟨s1, P1, hL1⟩
  rw [sV_len, List.take_length] at hL1
  have s1 := s1.freeze (q := D) hD hL1 gD
  have P1 := P1.frz hL1 gD nDp
  have gl1 : upd G D (.lst (sV (plainOf st))) D = some (.lst (sV (plainOf st))) := upd_same
  have sg : Same G (upd G D (.lst (sV (plainOf st)))) := Same.new (Same.refl G) gD
  have k1 := sg _ _ k1
  have k2 := sg _ _ k2
  have k3 := sg _ _ k3
  generalize upd G D (.lst (sV (plainOf st))) = G1 at *
  clear g1 g2 g3 gD hg
  have hg := P1.gh
  refine ⟨_, rfl, o2, _, 2, _, rfl, rfl, SqT.of (hg _ _ k1), atI_nat (j := 2) rfl, c', rfl, ⟨_, SqL.of (hg _ _ k2)⟩, fun D2 hD2 => ?_⟩
  have nDp2 : D2 ≠ p := fun z => P1.there (by rw [← z]; exact hD2)
  have gD2 := hg.free hD2
  have hDH2 := s1.free hD2
  refine lc_list (K := K) (a := c') (xs := sV st2.cs) (fun i H' => Step (some p) G H G1 H' ∧ Pq G1 H' p n ∧ H' D2 = some (.lst (sV ((st2.cs.take i).filter fun x => !decide (x ∈ st2.ms))))) ⟨s1.trans (P1.loc hD2).1, (P1.loc hD2).2, upd_same⟩ ?_ ?_ ?_
  · rintro i H' _ ⟨s', P', _⟩
    exact SqL.of (P'.gh _ _ k2)
  · rintro i y H' hx ⟨s', P', hL⟩
    obtain ⟨k, mk, rfl, hi⟩ := sV_at' hx
    refine ⟨rfl, ?_⟩
    refine ⟨_, rfl, _, rfl, o2, _, 3, _, rfl, rfl, SqT.of (P'.gh _ _ k1), atI_nat (j := 3) rfl, m', sV st2.ms, rfl, .inl (SqL.of (P'.gh _ _ k3)), rfl, sV_flat _, _, rfl, ?_⟩
    have e1 : (!inV (.str (S k)) (sV st2.ms)) = !decide (k ∈ st2.ms) := by rw [inV_sV]
    have e2 := filter_take (f := fun x => !decide (x ∈ st2.ms)) mk
    refine ite2 (fun hb => ?_) (fun hb => ?_)
    · have hb : (!decide (k ∈ st2.ms)) = true := e1.symm.trans hb
      refine ⟨_, rfl, _, hL, by rw [sV_len]; have := List.length_filter_le (fun x => !decide (x ∈ st2.ms)) (st2.cs.take i); rw [List.length_take] at this; omega, s'.loc hDH2 gD2, P'.local_ gD2 nDp2, ?_⟩
      rw [upd_same, e2, if_pos hb, ← sV_app]
      rfl
    · have hb : ¬ (!decide (k ∈ st2.ms)) = true := fun z => hb (e1.trans z)
      refine ⟨s', P', ?_⟩
      rw [e2, if_neg hb, List.append_nil]
      exact hL
  rintro H2 ⟨s2, P2, hL2⟩
  rw [sV_len, List.take_length] at hL2
  have s2 := s2.freeze (q := D2) hDH2 hL2 gD2
  have P2 := P2.frz hL2 gD2 nDp2
  have gl2 : upd G1 D2 (.lst (sV (plainOf st2))) D2 = some (.lst (sV (plainOf st2))) := upd_same
  have gl1 := (Same.new (Same.refl G1) gD2 (o := .lst (sV (plainOf st2)))) _ _ gl1
  generalize upd G1 D2 (.lst (sV (plainOf st2))) = G2 at *
  clear k1 k2 k3 gD2 hg s1 P1 hL1 hL2 sg
  have nm1 : ∀ x ∈ plainOf st, Nm x := fun x hx => gd.ok.nc x (List.mem_filter.mp hx).1
  have nm2 : ∀ x ∈ plainOf st2, Nm x := fun x hx => gd2.ok.nc x (List.mem_filter.mp hx).1
  have shl : ∀ xs : List (List Nat), (∀ x ∈ xs, Nm x) → SeqAt.shaped (.list (strsD xs)) = true := fun xs hx => by
    obtain ⟨z1, z2⟩ := lay_strs (xs := xs) hx
    unfold SeqAt.shaped
    simp [PyData.canLay0, PyData.depth, z1, z2]
  have ev : ∀ xs : List (List Nat), PyData.eqv (.list (strsD xs)) (.list []) = decide (xs = []) := fun xs => by
    cases xs with
    | nil => simp [strsD, PyData.eqv, PyData.eqvAll]
    | cons x r => simp [strsD, PyData.eqv, PyData.eqvAll]
  have m1 : ∀ x ∈ plainOf st, x ∈ st.cs ∧ x ∉ st.ms := fun x hx => ⟨(List.mem_filter.mp hx).1, fun z => by have := (List.mem_filter.mp hx).2; rw [decide_eq_true z] at this; cases this⟩
  have m2 : ∀ x ∈ plainOf st2, x ∈ st2.cs ∧ x ∉ st2.ms := fun x hx => ⟨(List.mem_filter.mp hx).1, fun z => by have := (List.mem_filter.mp hx).2; rw [decide_eq_true z] at this; cases this⟩
  have la : (plainOf st).length ≤ 60 := Nat.le_trans (List.length_filter_le _ _) ln
  have lb : (plainOf st2).length ≤ 60 := Nat.le_trans (List.length_filter_le _ _) ln2
  clear hD2 hD hP
  generalize plainOf st = as at *
  generalize plainOf st2 = bs at *
  refine ⟨_, rfl, by show 0 ≤ sizeLine; decide, fun e0 he0 => ?_⟩
  obtain ⟨s3, P3⟩ := P2.loc (o := .lst []) he0
  have he1 : upd H2 e0 (.lst []) e0 = some (.lst []) := upd_same
  have s03 := s2.trans s3
  generalize upd H2 e0 (.lst []) = H3 at *
  refine ⟨_, _, .lst (SqL.of (P3.gh _ _ gl1)) (dp_sV as), .lst (SqL.of he1) .nil, shl as nm1, by decide, _, rfl, ?_⟩
  rw [ev]
  refine ite2 (fun e => ?_) (fun ea => ?_)
  · exact iteT (qn _ _ s03 (P3.mono (by omega)))
  refine ⟨_, rfl, by show 0 ≤ sizeLine; decide, fun e2 he2 => ?_⟩
  obtain ⟨s4, P4⟩ := P3.loc (o := .lst []) he2
  have he3 : upd H3 e2 (.lst []) e2 = some (.lst []) := upd_same
  have s04 := s03.trans s4
  generalize upd H3 e2 (.lst []) = H4 at *
  refine ⟨_, _, .lst (SqL.of (P4.gh _ _ gl2)) (dp_sV bs), .lst (SqL.of he3) .nil, shl bs nm2, by decide, _, rfl, ?_⟩
  rw [ev]
  refine ite2 (fun e => ?_) (fun eb => ?_)
  · exact qn _ _ s04 (P4.mono (by omega))
  have ha : as ≠ [] := fun z => ea (decide_eq_true z)
  have hb : bs ≠ [] := fun z => eb (decide_eq_true z)
  have ha1 : 0 < as.length := List.length_pos_iff.mpr ha
  have hb1 : 0 < bs.length := List.length_pos_iff.mpr hb
  refine ⟨by show 0 ≤ sizeLine; decide, fun F1 hF => ?_⟩
  have nFp : F1 ≠ p := fun z => P4.there (by rw [← z]; exact hF)
  have gF := P4.gh.free hF
  have hFH := s04.free hF
  obtain ⟨s5, P5⟩ := P4.loc (o := .lst []) hF
  have hF5 : upd H4 F1 (.lst []) F1 = some (.lst []) := upd_same
  have s05 := s04.trans s5
  generalize upd H4 F1 (.lst []) = H5 at *
  refine ⟨_, rfl, G2, p, n, 3, rfl, P5, by omega, by decide, by decide, fun d G6 H6 s6 P6 a6 b6 => ?_⟩
  have s06 := s05.trans s6
  have hF6 := s6.kpc _ _ hF5 nFp
  have gF6 := s6.out gF (by rw [hF5]; exact fun z => by cases z)
  have gl1 := s6.gg _ _ gl1
  have gl2 := s6.gg _ _ gl2
  refine ⟨_, _, rfl, rfl, 1 + d, rfl, by omega, by omega, ?_⟩
  refine for_range (lo := 0) (n := (1 + d).toNat) (fun i σ H' => ∃ (v6 v7 v8 : Option V) (G' : Hp) (ps : List Pr), σ = [some (.ref p), some (.ref o), some (.ref o2), some (.ref D), some (.ref D2), some (.ref F1), v6, v7, v8] ∧ Step (some p) G H G' H' ∧ Pq G' H' p (n + 1 + 2 * i) ∧ G' F1 = none ∧ G' D = some (.lst (sV as)) ∧ G' D2 = some (.lst (sV bs)) ∧ H' F1 = some (.lst (ps.map fun q => V.ref q.1)) ∧ (∀ q ∈ ps, SqT K G' q.1 [.str (S q.2.1), .str (S q.2.2)]) ∧ (∀ q ∈ ps, q.2.1 ∈ as ∧ q.2.2 ∈ bs) ∧ (ps.map (·.2)).Nodup ∧ ps.length ≤ i ∧ (1 ≤ i → 1 ≤ ps.length))
    ⟨_, _, _, G6, [], rfl, s06, P6, gF6, gl1, gl2, hF6, fun q hq => (by cases hq), fun q hq => (by cases hq), List.nodup_nil, Nat.le_refl _, fun z => by omega⟩ ?_ ?_
  · rintro i σ H' hi ⟨v6, v7, v8, G', ps, rfl, s', P', gF', ga, gb, hF', ht', hm', nd', l', _⟩
    refine ⟨_, rfl, _, rfl, G', p, D, _, sV as, rfl, P', by omega, P'.gh _ _ ga, nDp, by rw [sV_len]; exact ha1, by rw [sV_len]; omega, fun v Ga Ha hv sa Pa => ?_⟩
    obtain ⟨k, hk, rfl⟩ := sV_mem hv
    have gb2 := sa.gg _ _ gb
    refine ⟨_, rfl, _, rfl, Ga, p, D2, _, sV bs, rfl, Pa, by omega, Pa.gh _ _ gb2, nDp2, by rw [sV_len]; exact hb1, by rw [sV_len]; omega, fun v Gb Hb hv sb Pb => ?_⟩
    obtain ⟨k2, hk2, rfl⟩ := sV_mem hv
    refine ⟨by show 2 ≤ sizeLine; decide, fun t ht => ?_⟩
    obtain ⟨sc, Pc⟩ := Pb.new_ (o := .tup [.str (S k), .str (S k2)]) ht
    have gt : upd Gb t (.tup [.str (S k), .str (S k2)]) t = some (.tup [.str (S k), .str (S k2)]) := upd_same
    have ne : F1 ≠ t := fun z => by
      have := sb.kpc _ _ (sa.kpc _ _ hF' nFp) nFp
      rw [z, ht] at this
      cases this
    have sac := (sa.trans sb).trans sc
    have hFc := sac.kpc _ _ hF' nFp
    have gFc := sac.out gF' (by rw [hF']; exact fun z => by cases z)
    have htc : ∀ q ∈ ps, SqT K _ q.1 [.str (S q.2.1), .str (S q.2.2)] := fun q hq => sqT_same (ht' q hq) sac.gg
    have gac := sac.gg _ _ ga
    have gbc := sac.gg _ _ gb
    generalize upd Gb t (.tup [.str (S k), .str (S k2)]) = Gc at *
    generalize upd Hb t (.tup [.str (S k), .str (S k2)]) = Hc at *
    have nmq : ∀ q ∈ ps.map (·.2), Nm q.1 ∧ Nm q.2 := fun q hq => by
      obtain ⟨z, hz, rfl⟩ := List.mem_map.mp hq
      exact ⟨nm1 _ (hm' z hz).1, nm2 _ (hm' z hz).2⟩
    obtain ⟨w1, w2⟩ := prD_lay (q := (k, k2)) (nm1 _ hk) (nm2 _ hk2)
    obtain ⟨w3, w4⟩ := prsD_lay nmq
    refine ⟨_, rfl, _, rfl, cpD (k, k2), (ps.map fun z : Pr => z.2).map cpD, .tup (SqT.of (Pc.gh _ _ gt)) (.cons (.str _) (.cons (.str _) .nil)), .lst (SqL.of hFc) (prs_dp fun q hq => sqT_same (htc q hq) Pc.gh), shp_of w1 (by omega), shp_of (by rw [PyData.canLay0]; exact w3) (by rw [PyData.depth]; omega), _, rfl, ?_⟩
    refine ite2 (fun hb' => ?_) (fun hb' => ?_)
    · have nin : (k, k2) ∉ ps.map (·.2) := fun z => by
        have : (((ps.map (·.2)).map cpD).any fun z => PyData.eqv z (cpD (k, k2))) = true := List.any_eq_true.mpr ⟨cpD (k, k2), List.mem_map.mpr ⟨_, z, rfl⟩, prD_refl _⟩
        rw [this] at hb'
        cases hb'
      refine ⟨_, rfl, .inl ⟨rfl, _, SqL.of hFc⟩, _, rfl, F1, _, _, rfl, rfl, hFc, by rw [List.length_map]; omega, ?_⟩
      refine ⟨_, _, _, Gc, ps ++ [(t, (k, k2))], rfl, (s'.trans sac).loc hFH gFc, (Pc.mono (by omega)).local_ gFc nFp, gFc, gac, gbc, ?_, fun q hq => ?_, fun q hq => ?_, ?_, by rw [List.length_append]; show _ + 1 ≤ _; omega, fun _ => by rw [List.length_append]; show 1 ≤ _ + 1; omega⟩
      · rw [upd_same, List.map_append]
        rfl
      · rcases List.mem_append.mp hq with hq | hq
        · exact htc q hq
        · rw [List.mem_singleton.mp hq]
          exact SqT.of gt
      · rcases List.mem_append.mp hq with hq | hq
        · exact hm' q hq
        · rw [List.mem_singleton.mp hq]
          exact ⟨hk, hk2⟩
      · rw [List.map_append]
        exact List.nodup_append.mpr ⟨nd', by simp, fun a ha b hb e => nin (by
          have : b = (k, k2) := by simpa using hb
          rw [← this, ← e]
          exact ha)⟩
    · refine ⟨_, _, _, Gc, ps, rfl, s'.trans sac, Pc.mono (by omega), gFc, gac, gbc, hFc, htc, hm', nd', by omega, fun _ => ?_⟩
      cases ps with
      | nil => exact absurd rfl hb'
      | cons z r => simp
  rintro σ H' ⟨v6, v7, v8, G', ps, rfl, s', P', gF', ga, gb, hF', ht', hm', nd', l', lpos⟩
  have sZ := s'.freeze (q := F1) hFH hF' gF'
  have PZ := (P'.frz hF' gF' nFp).mono (show n + 1 + 2 * (1 + d).toNat ≤ n + 10 by omega)
  refine ⟨_, rfl, q F1 ps _ H' sZ PZ ⟨upd_same, fun z hz => sqT_same (ht' z hz) (Same.new (Same.refl G') gF')⟩ ⟨fun z hz => ?_, fun z hz => ?_, nd', lpos (by omega), by omega⟩⟩
  · obtain ⟨y, hy, rfl⟩ := List.mem_map.mp hz
    exact m1 _ (hm' y hy).1
  · obtain ⟨y, hy, rfl⟩ := List.mem_map.mp hz
    exact m2 _ (hm' y hy).2
end Pf
namespace Bs
open PySem PySem.Spec PyProof.Rows L2 SX
variable {P : Program} {w : World} {K : PySem.W.Frag} {mg : Str → Option Value} {base : Heap}
def spLRight (K : PySem.W.Frag) (C : Addr) : Sp := fun vs H Q _ => ∃ (G : Hp) (o : Addr), vs = [.ref o] ∧ Same G H ∧ One K C G o ∧ ∀ H' : Hp, Step none G H G H' → Q (.bl true) H'
/-- a step's word, columns and measures -/
def stD (st : Stp) : PyData := .list [.str (S st.kd), .list (strsD st.cs), .list (strsD st.ms)]
theorem stD_eqv (st : Stp) : (stD st).eqv (stD st) = true := by
  have h : ∀ xs : List (List Nat), PyData.eqvAll (strsD xs) (strsD xs) = true := by
    intro xs
    induction xs with
    | nil => simp [strsD, PyData.eqvAll]
    | cons x r ih =>
      unfold strsD at ih ⊢
      simp [PyData.eqvAll, PyData.eqv, ih]
  simp [stD, PyData.eqv, PyData.eqvAll, h]
theorem stD_shaped {st : Stp} (ok : OkS st) (hs : PyData.strOk (S st.kd) = true) : SeqAt.shaped (stD st) = true := by
  obtain ⟨z1, z2⟩ := lay_strs (xs := st.cs) ok.nc
  obtain ⟨z3, z4⟩ := lay_strs (xs := st.ms) fun x hx => ok.nc x (ok.ms x hx)
  unfold SeqAt.shaped
  simp [stD, PyData.canLay0, PyData.canLayAll0, PyData.depth, PyData.depthAll, z1, z2, z3, z4, hs]
theorem stD_dp {H : Hp} {a c m : Addr} {st : Stp} (h : H a = some (.lst [.str (S st.kd), .ref c, .ref m])) (h1 : H c = some (.lst (sV st.cs))) (h2 : H m = some (.lst (sV st.ms))) : Dp K H (.ref a) (stD st) :=
  .lst (SqL.of h) (.cons (.str _) (.cons (.lst (SqL.of h1) (dp_sV _)) (.cons (.lst (SqL.of h2) (dp_sV _)) .nil)))
theorem stD2_eqv (a b : Stp) : (PyData.list [stD a, stD b]).eqv (.list [stD a, stD b]) = true := by
  have h1 := stD_eqv a
  have h2 := stD_eqv b
  rw [PyData.eqv]
  rw [PyData.eqvAll, h1, PyData.eqvAll, h2, PyData.eqvAll]
  rfl
theorem stD_lay {st : Stp} (ok : OkS st) (hs : PyData.strOk (S st.kd) = true) : PyData.canLay0 (stD st) = true ∧ PyData.depth (stD st) ≤ 2 := by
  obtain ⟨z1, z2⟩ := lay_strs (xs := st.cs) ok.nc
  obtain ⟨z3, z4⟩ := lay_strs (xs := st.ms) fun x hx => ok.nc x (ok.ms x hx)
  refine ⟨?_, ?_⟩
  · simp [stD, PyData.canLay0, PyData.canLayAll0, z1, z3, hs]
  · simp [stD, PyData.depth, PyData.depthAll, z2, z4]
theorem stD2_shaped {a b : Stp} (h1 : Good a) (h2 : Good b) : SeqAt.shaped (.list [stD a, stD b]) = true := by
  obtain ⟨x1, x2⟩ := stD_lay h1.ok h1.sk
  obtain ⟨y1, y2⟩ := stD_lay h2.ok h2.sk
  refine shp_of ?_ ?_
  · rw [PyData.canLay0, PyData.canLayAll0, x1, PyData.canLayAll0, y1, PyData.canLayAll0]; rfl
  · rw [PyData.depth, PyData.depthAll, PyData.depthAll, PyData.depthAll]; omega
/-- a list that tells a step -/
def InB (G H : Hp) (a : Addr) (st : Stp) : Prop := ∃ cc mm : Addr, H a = some (.lst [.str (S st.kd), .ref cc, .ref mm]) ∧ G cc = some (.lst (sV st.cs)) ∧ G mm = some (.lst (sV st.ms))
theorem paired_snoc {α β : Type} {F : α → β → Prop} {a : α} {b : β} : ∀ {xs : List α} {ys : List β}, Paired F xs ys → F a b → Paired F (xs ++ [a]) (ys ++ [b])
  | _, _, .nil, h => .cons h .nil
  | _, _, .cons x t, h => .cons x (paired_snoc t h)
theorem paired_len' {α β : Type} {F : α → β → Prop} : ∀ {xs : List α} {ys : List β}, Paired F xs ys → xs.length = ys.length
  | _, _, .nil => rfl
  | _, _, .cons _ t => congrArg (· + 1) (paired_len' t)
theorem inB_upd {G H : Hp} {D a : Addr} {o o2 : HO} (ha : H a = none) : ∀ {as : List Addr} {sts : List Stp}, D ∉ as → Paired (InB G H) as sts → Paired (InB G (upd (upd H a o2) D o)) as sts
  | _, _, _, .nil => .nil
  | b :: r, _, nD, .cons ⟨cc, mm, z1, z2, z3⟩ t => by
    rw [List.mem_cons, not_or] at nD
    exact .cons ⟨cc, mm, by rw [upd_ne (fun e => nD.1 e.symm), upd_ne (ne_of_none z1 ha)]; exact z1, z2, z3⟩ (inB_upd ha nD.2 t)
theorem inB_loc {G H : Hp} {a : Addr} {o : HO} (ha : H a = none) : ∀ {as : List Addr} {sts : List Stp}, Paired (InB G H) as sts → Paired (InB G (upd H a o)) as sts
  | _, _, .nil => .nil
  | b :: r, _, .cons ⟨cc, mm, z1, z2, z3⟩ t => .cons ⟨cc, mm, by rw [upd_ne (ne_of_none z1 ha)]; exact z1, z2, z3⟩ (inB_loc ha t)
theorem inB_nin {G H : Hp} {D : Addr} (hD : H D = none) : ∀ {as : List Addr} {sts : List Stp}, Paired (InB G H) as sts → D ∉ as
  | _, _, .nil => fun z => by cases z
  | b :: r, _, .cons ⟨cc, mm, z1, _, _⟩ t => by
    rw [List.mem_cons, not_or]
    exact ⟨fun e => (ne_of_none z1 hD) e.symm, inB_nin hD t⟩
theorem inB_dp {G H : Hp} (s : Same G H) : ∀ {as : List Addr} {sts : List Stp}, Paired (InB G H) as sts → DpAll K H (as.map V.ref) (sts.map stD)
  | _, _, .nil => .nil
  | _, _, .cons ⟨_, _, h1, h2, h3⟩ t => .cons (stD_dp h1 (s _ _ h2) (s _ _ h3)) (inB_dp s t)
end Bs
namespace Pf
open PySem PySem.Spec PyProof.Rows L2 Bs SX
variable {P : Program} {w : World} {K : PySem.W.Frag} {mg : Str → Option Value} {base : Heap}
abbrev N_Lright : List Str := ["_law_one", "_law_made", "_law_told", "_law_below"]
theorem sc_Lright : FnScope N_Lright ["_law_one"] (defScope s_Lright) := ⟨rfl, rfl, rfl, by decide +kernel, rfl, by decide +kernel, by decide +kernel⟩
theorem c_Lright (T : Tx K mg) : C8.Cal P w K mg base 1 "_law_right" (spLRight K (CSt K)) [] := by
  obtain ⟨fd, F⟩ := f_Lright T
  have pe_g_Step : ∀ {X : Cx} {pos : Pos}, X.mg = mg → Gl X "Step" → PE X (.Name "Step" pos) (tC (.ref (CSt K))) := fun h1 h2 => C8.pe_gc h2 ⟨_, by rw [h1]; exact g_Step T, rfl⟩
  refine mkCal F (g_law_right T) (F.bindsN fun _ _ _ _ _ _ us hl => match us, hl with | [_], _ => rfl) .nil sc_Lright (fun vs H Q E h => ?_) (fun cdv A outer s H vs Q E hr h => ?_)
  · obtain ⟨G, o, rfl, _⟩ := h
    rfl
  obtain ⟨G, o, rfl, hG, ⟨x, st, ho, gd⟩, q⟩ := h
  obtain ⟨c, m, r, ins, g1, g2, g3, g5, g6⟩ := id ho.ex
  obtain ⟨dx, i, cc, mm, dd, fs, h1, h2, h3, h4, h5, h6⟩ := g5.ex
  have C0 := cls_Step_ T
  have I0 := Hd.insB_ok (ex_13 T)
  have sl : sizeLine = 16777216 := rfl
  refine ⟨_, (pss_cons (ps_set (i := 1) sc_Lright.nd rfl (Or.inl rfl) (pe_ix (ix_tupK (K := K) rfl) (pv 0) pe_int (fun _ _ => rfl)))
    (pss_cons (ps_if (PW.pt (pw_or (pt_not (pt_val (pe_callB (call_isiK' (K := K) rfl) (by rfl) (z_isinstance T) boot_isinstance (pa_cons (pv 1) (pa_cons (pe_g_Step rfl rfl) pa_nil))))) (pw_or1 (pt_cmpR (op_neD hr.units) (pe_lst (pa_cons (pe_fldK (K := K) rfl (pv 1) (by rfl)) (pa_cons (pe_fldK (K := K) rfl (pv 1) (by rfl)) (pa_cons (pe_fldK (K := K) rfl (pv 1) (by rfl)) pa_nil)))) (pe_lst (pa_cons (pe_ix (ix_tupK (K := K) rfl) (pv 0) pe_int (fun _ _ => rfl)) (pa_cons (pe_ix (ix_tupK (K := K) rfl) (pv 0) pe_int (fun _ _ => rfl)) (pa_cons (pe_ix (ix_tupK (K := K) rfl) (pv 0) pe_int (fun _ _ => rfl)) pa_nil)))) (nomark _))))) (pss_one (ps_ret pe_bl)) pss_nil)
    (pss_cons (ps_if (pt_cmpR op_eq (pe_callB (call_len_seqK (K := K) rfl) (by rfl) (z_len T) boot_len (pa_cons (pv 0) pa_nil)) pe_int (nomark _)) (pss_one (ps_ret pe_bl)) pss_nil)
    (pss_cons (ps_setLc (i := 2) (own := [("_law_below", 3)]) rfl sc_Lright.nd rfl rfl (sw_true rfl rfl rfl (by decide +kernel)) (pi_tupK (K := K) rfl (pe_fldK (K := K) rfl (pv 1) (by rfl))) (blkOk_by (N := N_Lright) (sc := defScope s_Lright) (by decide +kernel)) (fun _ _ _ _ _ => (pg_name (i := 3) sc_Lright.nd rfl (Or.inl rfl))) (fun _ _ _ _ _ => pts_nil) (fun _ _ _ _ _ => (pe_lst (pa_cons (pe_fldK (K := K) rfl (pv 3) (by rfl)) (pa_cons (pe_fldK (K := K) rfl (pv 3) (by rfl)) (pa_cons (pe_fldK (K := K) rfl (pv 3) (by rfl)) pa_nil))))))
    (pss_one (ps_ret (pe_and (pe_callB (call_isiK' (K := K) rfl) (by rfl) (z_isinstance T) boot_isinstance (pa_cons (pe_fldK (K := K) rfl (pv 1) (by rfl)) (pa_cons (pe_bltn (v := .ty "tuple") (by rfl) (z_tuple T) boot_tuple rfl) pa_nil))) (pe_one (pe_cmpR (op_eqD hr.units) (pv 2) (pe_lc (own := [("_law_below", 3)]) rfl sc_Lright.nd (pi_tupK (K := K) rfl (pe_slice sl_tup (pv 0) (po_some pe_int) po_none)) (blkOk_by (N := N_Lright) (sc := defScope s_Lright) (by decide +kernel)) (fun _ _ _ _ _ => (pg_name (i := 3) sc_Lright.nd rfl (Or.inl rfl))) (fun _ _ _ _ _ => pts_nil) (fun _ _ _ _ _ => (pe_lst (pa_cons (pe_ix (ix_tupK (K := K) rfl) (pv 3) pe_int (fun _ _ => rfl)) (pa_cons (pe_ix (ix_tupK (K := K) rfl) (pv 3) pe_int (fun _ _ => rfl)) (pa_cons (pe_ix (ix_tupK (K := K) rfl) (pv 3) pe_int (fun _ _ => rfl)) pa_nil)))))) (nomark _)))))))))), ?_⟩
  refine ⟨_, rfl, o, _, 0, _, rfl, rfl, SqT.of (hG _ _ g1), atI_nat (j := 0) rfl, ?_⟩
  refine ⟨_, rfl, .ref x, .ref (CSt K), .ref (CSt K), .ref (CSt K), true, rfl, .own _, .base (.ins (hG _ _ h1) C0 I0.ha I0.hn I0.htk I0.hm), I0.me, true, rfl, iteF ?_⟩
  refine ⟨_, rfl, x, CSt K, dx, _, _, rfl, hG _ _ h1, C0, noat_Step_kind T, h2.k, _, rfl, x, CSt K, dx, _, _, rfl, hG _ _ h1, C0, noat_Step_columns T, h2.c, _, rfl, x, CSt K, dx, _, _, rfl, hG _ _ h1, C0, noat_Step_measures T, h2.m, by show 3 ≤ sizeLine; decide, fun A0 hA0 => ?_⟩
  have s1 : Step none G H G (upd H A0 (.lst [.str (S st.kd), .ref cc, .ref mm])) := (Step.refl hG).loc hA0 (hG.free hA0)
  have hA : upd H A0 (.lst [.str (S st.kd), .ref cc, .ref mm]) A0 = some (.lst [.str (S st.kd), .ref cc, .ref mm]) := upd_same
  generalize upd H A0 (.lst [.str (S st.kd), .ref cc, .ref mm]) = H1 at *
  have go := SqT.of (K := K) (s1.gh _ _ g1)
  refine ⟨_, rfl, o, _, 1, _, rfl, rfl, go, atI_nat (j := 1) rfl, _, rfl, o, _, 2, _, rfl, rfl, go, atI_nat (j := 2) rfl, _, rfl, o, _, 3, _, rfl, rfl, go, atI_nat (j := 3) rfl, by show 3 ≤ sizeLine; decide, fun A1 hA1 => ?_⟩
  have s2 : Step none G H G (upd H1 A1 (.lst [.str (S st.kd), .ref c, .ref m])) := s1.loc (s1.free hA1) (s1.gh.free hA1)
  have hB : upd H1 A1 (.lst [.str (S st.kd), .ref c, .ref m]) A1 = some (.lst [.str (S st.kd), .ref c, .ref m]) := upd_same
  have hA2 : upd H1 A1 (.lst [.str (S st.kd), .ref c, .ref m]) A0 = some (.lst [.str (S st.kd), .ref cc, .ref mm]) := by rw [upd_ne (ne_of_none hA hA1)]; exact hA
  generalize upd H1 A1 (.lst [.str (S st.kd), .ref c, .ref m]) = H2 at *
  have gh := s2.gh
  have shp := stD_shaped gd.ok gd.sk
  refine ⟨stD st, stD st, stD_dp hA2 (gh _ _ h4) (gh _ _ h5), stD_dp hB (gh _ _ g2) (gh _ _ g3), shp, shp, _, rfl, ?_⟩
  rw [stD_eqv]
  refine iteF ?_
  rcases g6 with rfl | ⟨o1, x1, o2, x2, st1, st2, rfl, rfl, b1, b2, gd1, gd2⟩
  · refine ⟨_, rfl, o, _, rfl, .inr (SqT.of (gh _ _ g1)), rfl, _, rfl, iteT ?_⟩
    exact q _ s2
  refine ⟨_, rfl, o, _, rfl, .inr (SqT.of (gh _ _ g1)), rfl, _, rfl, iteF ?_⟩
  clear hA hB hA2 shp go s1
  obtain ⟨c1, m1, r1, is1, b11, b12, b13, b14⟩ := b1
  obtain ⟨c2, m2, r2, is2, b21, b22, b23, b24⟩ := b2
  obtain ⟨dx1, i1, cc1, mm1, dd1, fs1, p1, p2, p3, p4, p5, p6⟩ := b14.ex
  obtain ⟨dx2, i2, cc2, mm2, dd2, fs2, q1, q2, q3, q4, q5, q6⟩ := b24.ex
  -- what the inputs tell
  refine ⟨_, rfl, x, CSt K, dx, _, _, rfl, gh _ _ h1, C0, noat_Step_inputs T, h2.i, i, rfl, ⟨_, SqT.of (gh _ _ h3)⟩, fun D hD => ?_⟩
  have gD := gh.free hD
  have hDH := s2.free hD
  have told : ∀ (D : Addr) (H' : Hp) (as : List Addr) (st0 : Stp) (sts : List Stp) (a cc mm : Addr), Step none G H G H' → H' D = some (.lst (as.map V.ref)) → Paired (InB G H') as sts → D ∉ as → G D = none → H D = none → H' a = none → G cc = some (.lst (sV st0.cs)) → G mm = some (.lst (sV st0.ms)) →
      Step none G H G (upd (upd H' a (.lst [.str (S st0.kd), .ref cc, .ref mm])) D (.lst (as.map V.ref ++ [V.ref a]))) ∧ (upd (upd H' a (.lst [.str (S st0.kd), .ref cc, .ref mm])) D (.lst (as.map V.ref ++ [V.ref a]))) D = some (.lst ((as ++ [a]).map V.ref)) ∧
      Paired (InB G (upd (upd H' a (.lst [.str (S st0.kd), .ref cc, .ref mm])) D (.lst (as.map V.ref ++ [V.ref a])))) (as ++ [a]) (sts ++ [st0]) ∧ D ∉ as ++ [a] := fun D H' as st0 sts a cc mm s' hD' hp nD gD hDH ha g1 g2 => by
    have na : D ≠ a := ne_of_none hD' ha
    refine ⟨(s'.loc (s'.free ha) (s'.gh.free ha)).loc hDH gD, by rw [upd_same, List.map_append]; rfl, paired_snoc ?_ ⟨cc, mm, by rw [upd_ne na.symm, upd_same], g1, g2⟩, by simp [nD, na]⟩
    exact inB_upd ha nD hp
  refine lc_tup (K := K) (a := i) (xs := [V.ref x1, .ref x2]) (fun n H' => Step none G H G H' ∧ ∃ as : List Addr, H' D = some (.lst (as.map V.ref)) ∧ Paired (InB G H') as ([st1, st2].take n) ∧ D ∉ as) ⟨s2.loc hDH gD, [], upd_same, .nil, fun z => by cases z⟩ ?_ ?_ ?_
  · rintro n H' _ ⟨s', _⟩
    exact SqT.of (s'.gh _ _ h3)
  · rintro n y H' hx ⟨s', as, hD', hp, nD⟩
    have la := paired_len' hp
    match n, hx with
    | 0, hx =>
      obtain rfl : V.ref x1 = y := Option.some.inj hx
      refine ⟨rfl, ?_⟩
      unfold tYes
      refine iteT ⟨_, rfl, x1, CSt K, dx1, _, _, rfl, s'.gh _ _ p1, C0, noat_Step_kind T, p2.k, _, rfl, x1, CSt K, dx1, _, _, rfl, s'.gh _ _ p1, C0, noat_Step_columns T, p2.c, _, rfl, x1, CSt K, dx1, _, _, rfl, s'.gh _ _ p1, C0, noat_Step_measures T, p2.m, by show 3 ≤ sizeLine; decide, fun a ha => ?_⟩
      obtain ⟨t1, t2, t3, t4⟩ := told D H' as st1 _ a cc1 mm1 s' hD' hp nD gD hDH ha p4 p5
      refine ⟨as.map V.ref, by rw [upd_ne (ne_of_none hD' ha)]; exact hD', by rw [List.length_map, la]; show 0 < sizeLine; decide, t1, as ++ [a], t2, t3, t4⟩
    | 1, hx =>
      obtain rfl : V.ref x2 = y := Option.some.inj hx
      refine ⟨rfl, ?_⟩
      unfold tYes
      refine iteT ⟨_, rfl, x2, CSt K, dx2, _, _, rfl, s'.gh _ _ q1, C0, noat_Step_kind T, q2.k, _, rfl, x2, CSt K, dx2, _, _, rfl, s'.gh _ _ q1, C0, noat_Step_columns T, q2.c, _, rfl, x2, CSt K, dx2, _, _, rfl, s'.gh _ _ q1, C0, noat_Step_measures T, q2.m, by show 3 ≤ sizeLine; decide, fun a ha => ?_⟩
      obtain ⟨t1, t2, t3, t4⟩ := told D H' as st2 _ a cc2 mm2 s' hD' hp nD gD hDH ha q4 q5
      refine ⟨as.map V.ref, by rw [upd_ne (ne_of_none hD' ha)]; exact hD', by rw [List.length_map, la]; show 1 < sizeLine; decide, t1, as ++ [a], t2, t3, t4⟩
    | n + 2, hx => cases hx
  rintro H3 ⟨s3, as, hD3, hp3, nD3⟩
  have hp3 : Paired (InB G H3) as [st1, st2] := hp3
  refine ⟨_, rfl, x, CSt K, dx, _, _, rfl, s3.gh _ _ h1, C0, noat_Step_inputs T, h2.i, .ref i, _, .type "tuple", .type "tuple", true, rfl, .ty "tuple", sqT_ty (SqT.of (s3.gh _ _ h3)), kit_ty (by decide +kernel), ?_⟩
  refine ⟨_, rfl, iteT ⟨_, rfl, _, rfl, _, rfl, o, _, rfl, SqT.of (s3.gh _ _ g1), fun z => absurd z.1 (by show ¬ ((4 : Nat) = 0); decide), fun t ht => ?_⟩⟩
  have s4 : Step none G H G (upd H3 t (.tup [.ref o1, .ref o2])) := s3.loc (s3.free ht) (s3.gh.free ht)
  have nDt : D ≠ t := ne_of_none hD3 ht
  have hD4 : upd H3 t (.tup [.ref o1, .ref o2]) D = some (.lst (as.map V.ref)) := by rw [upd_ne nDt]; exact hD3
  have hp4 : Paired (InB G (upd H3 t (.tup [.ref o1, .ref o2]))) as [st1, st2] := inB_loc ht hp3
  have ht4 : upd H3 t (.tup [.ref o1, .ref o2]) t = some (.tup [.ref o1, .ref o2]) := upd_same
  rw [show cutV [V.ref x, V.str (S st.kd), V.ref c, V.ref m, V.ref o1, V.ref o2] (some 4) none = [V.ref o1, V.ref o2] from rfl]
  generalize upd H3 t (.tup [.ref o1, .ref o2]) = H4 at *
  refine ⟨t, rfl, ⟨_, SqT.of ht4⟩, fun D2 hD2 => ?_⟩
  have gD2 := s4.gh.free hD2
  have hDH2 := s4.free hD2
  have nDD : D ≠ D2 := ne_of_none hD4 hD2
  refine lc_tup (K := K) (a := t) (xs := [V.ref o1, .ref o2]) (fun n H' => Step none G H G H' ∧ H' t = some (.tup [.ref o1, .ref o2]) ∧ H' D = some (.lst (as.map V.ref)) ∧ Paired (InB G H') as [st1, st2] ∧ D2 ∉ as ∧ ∃ bs : List Addr, H' D2 = some (.lst (bs.map V.ref)) ∧ Paired (InB G H') bs ([st1, st2].take n) ∧ D2 ∉ bs) ⟨s4.loc hDH2 gD2, by rw [upd_ne (ne_of_none ht4 hD2)]; exact ht4, by rw [upd_ne nDD]; exact hD4, inB_loc hD2 hp4, ?_, [], upd_same, .nil, fun z => by cases z⟩ ?_ ?_ ?_
  · exact inB_nin hD2 hp4
  · rintro n H' _ ⟨s', h', _⟩
    exact SqT.of h'
  · rintro n y H' hx ⟨s', ht', hDa, hpa, nDa, bs, hD', hp, nD⟩
    have la := paired_len' hp
    match n, hx with
    | 0, hx =>
      obtain rfl : V.ref o1 = y := Option.some.inj hx
      have g := SqT.of (K := K) (s'.gh _ _ b11)
      refine ⟨rfl, ?_⟩
      unfold tYes
      refine iteT ⟨_, rfl, o1, _, 1, _, rfl, rfl, g, atI_nat (j := 1) rfl, _, rfl, o1, _, 2, _, rfl, rfl, g, atI_nat (j := 2) rfl, _, rfl, o1, _, 3, _, rfl, rfl, g, atI_nat (j := 3) rfl, by show 3 ≤ sizeLine; decide, fun a ha => ?_⟩
      obtain ⟨t1, t2, t3, t4⟩ := told D2 H' bs st1 _ a c1 m1 s' hD' hp nD gD2 hDH2 ha b12 b13
      refine ⟨bs.map V.ref, by rw [upd_ne (ne_of_none hD' ha)]; exact hD', by rw [List.length_map, la]; show 0 < sizeLine; decide, t1, by rw [upd_ne (fun z => by rw [z, hD'] at ht'; cases ht'), upd_ne (ne_of_none ht' ha)]; exact ht', by rw [upd_ne nDD, upd_ne (ne_of_none hDa ha)]; exact hDa, inB_upd ha nDa hpa, nDa, bs ++ [a], t2, t3, t4⟩
    | 1, hx =>
      obtain rfl : V.ref o2 = y := Option.some.inj hx
      have g := SqT.of (K := K) (s'.gh _ _ b21)
      refine ⟨rfl, ?_⟩
      unfold tYes
      refine iteT ⟨_, rfl, o2, _, 1, _, rfl, rfl, g, atI_nat (j := 1) rfl, _, rfl, o2, _, 2, _, rfl, rfl, g, atI_nat (j := 2) rfl, _, rfl, o2, _, 3, _, rfl, rfl, g, atI_nat (j := 3) rfl, by show 3 ≤ sizeLine; decide, fun a ha => ?_⟩
      obtain ⟨t1, t2, t3, t4⟩ := told D2 H' bs st2 _ a c2 m2 s' hD' hp nD gD2 hDH2 ha b22 b23
      refine ⟨bs.map V.ref, by rw [upd_ne (ne_of_none hD' ha)]; exact hD', by rw [List.length_map, la]; show 1 < sizeLine; decide, t1, by rw [upd_ne (fun z => by rw [z, hD'] at ht'; cases ht'), upd_ne (ne_of_none ht' ha)]; exact ht', by rw [upd_ne nDD, upd_ne (ne_of_none hDa ha)]; exact hDa, inB_upd ha nDa hpa, nDa, bs ++ [a], t2, t3, t4⟩
    | n + 2, hx => cases hx
  rintro H5 ⟨s5, _, hDa, hpa, nDa, bs, hDb, hpb, nDb⟩
  have hpb : Paired (InB G H5) bs [st1, st2] := hpb
  have shp2 := stD2_shaped gd1 gd2
  refine ⟨.list [stD st1, stD st2], .list [stD st1, stD st2], .lst (SqL.of hDa) (inB_dp s5.gh hpa), .lst (SqL.of hDb) (inB_dp s5.gh hpb), shp2, shp2, ?_⟩
  rw [stD2_eqv]
  exact q _ s5
end Pf
namespace Bs
open PySem PySem.Spec PyProof.Rows L2 SX
variable {P : Program} {w : World} {K : PySem.W.Frag} {mg : Str → Option Value} {base : Heap}
theorem strIf {a b : List Nat} {x : Str} {A B : Prop} (hx : x = S b) (h1 : a = b → A) (h2 : a ≠ b → B) : if decide (V.str (S a) = V.str x) = true then A else B := by
  subst hx
  by_cases e : a = b
  · rw [if_pos (by rw [e]; exact decide_eq_true rfl)]
    exact h1 e
  · rw [if_neg (fun z => e (S_inj (V.str.inj (of_decide_eq_true z))))]
    exact h2 e
def spLTwo (K : PySem.W.Frag) (C : Addr) : Sp := fun vs H Q _ => ∃ (G : Hp) (p o o2 : Addr) (n : Nat), vs = [.ref p, .ref o, .ref o2] ∧ Pq G H p n ∧ n ≤ 700000 ∧ One K C G o ∧ One K C G o2 ∧
  (∀ (G' H' : Hp), Step (some p) G H G' H' → Pq G' H' p (n + 20) → Q .non H') ∧ ∀ (o3 : Addr) (G' H' : Hp), Step (some p) G H G' H' → Pq G' H' p (n + 20) → One K C G' o3 → Q (.ref o3) H'
/-- the tuple of a step of two -/
theorem one_two {C : Addr} {G : Hp} {o x x1 x2 c m o1 o2 : Addr} {st st1 st2 : Stp} (h : G o = some (.tup [.ref x, .str (S st.kd), .ref c, .ref m, .ref o1, .ref o2])) (hc : G c = some (.lst (sV st.cs))) (hm : G m = some (.lst (sV st.ms))) (a : StAt K C G x st [.ref x1, .ref x2]) (h1 : OneAt K C G o1 x1 st1) (h2 : OneAt K C G o2 x2 st2) (g1 : Good st1) (g2 : Good st2) (g : Good st) : One K C G o :=
  ⟨x, st, ⟨c, m, [.ref o1, .ref o2], _, h, hc, hm, a, .inr ⟨o1, x1, o2, x2, st1, st2, rfl, rfl, h1.b, h2.b, g1, g2⟩⟩, g⟩
end Bs
namespace Pf
open PySem PySem.Spec PyProof.Rows L2 Bs SX
variable {P : Program} {w : World} {K : PySem.W.Frag} {mg : Str → Option Value} {base : Heap}
theorem tp_join_with_on (T : Tx K mg) : Mk.MetP P w K mg base 5 (CSt K) "join_with" 1 ["on"] (fun vs zs => vs ++ zs) (spMJoin K (CSt K)) := by
  obtain ⟨fd, RO, F⟩ := o_join_with (P := P) (w := w) (base := base) T
  exact ⟨_, fd, _, _, cls_Step_ T, meth_Step_join_with T, RO, Mk.kbindsN F 2 ["on"] fun _ _ _ _ _ _ us ws h1 h2 => match us, ws, h1, h2 with | [_, _], [_], _, _ => rfl⟩
abbrev N_Ltwo : List Str := ["_law_pen_here", "_law_one", "_law_other", "_law_kind", "_law_pairs_here", "_law_made", "_law_odd", "_law_both", "_law_at", "_law_name"]
theorem sc_Ltwo : FnScope N_Ltwo ["_law_pen_here", "_law_one", "_law_other"] (defScope s_Ltwo) := ⟨rfl, rfl, rfl, by decide +kernel, rfl, by decide +kernel, by decide +kernel⟩
theorem c_Ltwo (T : Tx K mg) : C8.Cal P w K mg base 6 "_law_two" (spLTwo K (CSt K)) [] := by
  obtain ⟨fd, F⟩ := f_Ltwo T
  have c_Ldraw := c_Ldraw (P := P) (w := w) (base := base) T
  have c_Lpick := c_Lpick (P := P) (w := w) (base := base) T
  have c_Lpairs := c_Lpairs (P := P) (w := w) (base := base) T
  have a_add := a_add (P := P) (w := w) (base := base) T
  have t_join_with := t_join_with (P := P) (w := w) (base := base) T
  have tp_join_with_on := tp_join_with_on (P := P) (w := w) (base := base) T
  have t_semi_with := t_semi_with (P := P) (w := w) (base := base) T
  have t_anti_with := t_anti_with (P := P) (w := w) (base := base) T
  refine mkCal F (g_law_two T) (F.bindsN fun _ _ _ _ _ _ us hl => match us, hl with | [_, _, _], _ => rfl) .nil sc_Ltwo (fun vs H Q E h => ?_) (fun cdv A outer s H vs Q E hr h => ?_)
  · obtain ⟨G, p, o, o2, n, rfl, _⟩ := h
    rfl
  obtain ⟨G, p, o, o2, n, rfl, hP, hn, ⟨x, st, ho, gd⟩, ⟨x2, st2, ho2, gd2⟩, qn, q⟩ := h
  have sl : sizeLine = 16777216 := rfl
  have ln := gd.ok.ln
  have ln2 := gd2.ok.ln
  refine ⟨_, (pss_cons (ps_set (i := 3) sc_Ltwo.nd rfl (Or.inl rfl) (C8.pe_c c_Lpick hr (by first | decide | omega) rfl (pa_cons (pv 0) (pa_cons (pe_lst (pa_cons pe_str (pa_cons pe_str (pa_cons pe_str (pa_cons pe_str (pa_cons pe_str pa_nil)))))) pa_nil))))
    (pss_cons (ps_if (pt_cmpR op_eq (pv 3) pe_str (nomark _)) (pss_cons (ps_if (pt_cmpR op_ne (pe_callB (call_len_seqK (K := K) rfl) (by rfl) (z_len T) boot_len (pa_cons (pe_ix (ix_tupK (K := K) rfl) (pv 1) pe_int (fun _ _ => rfl)) pa_nil)) (pe_callB (call_len_seqK (K := K) rfl) (by rfl) (z_len T) boot_len (pa_cons (pe_ix (ix_tupK (K := K) rfl) (pv 2) pe_int (fun _ _ => rfl)) pa_nil)) (nomark _)) (pss_one (ps_ret pe_non)) pss_nil)
    (pss_cons (ps_setLc (i := 6) (own := [("_law_at", 8)]) rfl sc_Ltwo.nd rfl rfl (sw_true rfl rfl rfl (by decide +kernel)) (pi_range1 (by rfl) (z_range T) (pa_cons (pe_callB (call_len_seqK (K := K) rfl) (by rfl) (z_len T) boot_len (pa_cons (pe_ix (ix_tupK (K := K) rfl) (pv 1) pe_int (fun _ _ => rfl)) pa_nil)) pa_nil)) (blkOk_by (N := N_Ltwo) (sc := defScope s_Ltwo) (by decide +kernel)) (fun _ _ _ _ _ => (pg_name (i := 8) sc_Ltwo.nd rfl (Or.inl rfl))) (fun _ _ _ _ _ => pts_one (PW.pt (pw_or (pt_cmpR (op_in_seqK (K := K) rfl) (pe_ix (ix_listK (K := K) rfl) (pe_ix (ix_tupK (K := K) rfl) (pv 1) pe_int (fun _ _ => rfl)) (pv 8) (fun _ _ => rfl)) (pe_ix (ix_tupK (K := K) rfl) (pv 1) pe_int (fun _ _ => rfl)) (by rfl)) (pw_or1 (pt_cmpR (op_in_seqK (K := K) rfl) (pe_ix (ix_listK (K := K) rfl) (pe_ix (ix_tupK (K := K) rfl) (pv 2) pe_int (fun _ _ => rfl)) (pv 8) (fun _ _ => rfl)) (pe_ix (ix_tupK (K := K) rfl) (pv 2) pe_int (fun _ _ => rfl)) (by rfl)))))) (fun _ _ _ _ _ => (pe_ix (ix_listK (K := K) rfl) (pe_ix (ix_tupK (K := K) rfl) (pv 1) pe_int (fun _ _ => rfl)) (pv 8) (fun _ _ => rfl))))
    (pss_one (ps_ret (pe_tup (pa_cons (pe_op (Ad.op_addO a_add hr (by first | decide | omega) (sf_Step T)) (pe_ix (ix_tupK (K := K) rfl) (pv 1) pe_int (fun _ _ => rfl)) (pe_ix (ix_tupK (K := K) rfl) (pv 2) pe_int (fun _ _ => rfl))) (pa_cons (pv 3) (pa_cons (pe_ix (ix_tupK (K := K) rfl) (pv 1) pe_int (fun _ _ => rfl)) (pa_cons (pv 6) (pa_cons (pv 1) (pa_cons (pv 2) pa_nil))))))))))) pss_nil)
    (pss_cons (ps_set (i := 4) sc_Ltwo.nd rfl (Or.inl rfl) (C8.pe_c c_Lpairs hr (by first | decide | omega) rfl (pa_cons (pv 0) (pa_cons (pv 1) (pa_cons (pv 2) pa_nil)))))
    (pss_cons (ps_if (pt_cmpR op_isN (pv 4) pe_non (nomark _)) (pss_one (ps_ret pe_non)) pss_nil)
    (pss_cons (ps_if (pt_cmpR op_eq (pv 3) pe_str (nomark _)) (pss_cons (ps_if (pt_cmpR (op_neD hr.units) (pe_lc (own := [("_law_name", 9)]) rfl sc_Ltwo.nd (pi_listK (K := K) rfl (pe_ix (ix_tupK (K := K) rfl) (pv 1) pe_int (fun _ _ => rfl))) (blkOk_by (N := N_Ltwo) (sc := defScope s_Ltwo) (by decide +kernel)) (fun _ _ _ _ _ => (pg_name (i := 9) sc_Ltwo.nd rfl (Or.inl rfl))) (fun _ _ _ _ _ => pts_one (pt_cmpR (op_in_seqK (K := K) rfl) (pv 9) (pe_ix (ix_tupK (K := K) rfl) (pv 2) pe_int (fun _ _ => rfl)) (by rfl))) (fun _ _ _ _ _ => (pv 9))) (pe_lst pa_nil) (nomark _)) (pss_one (ps_ret pe_non)) pss_nil)
    (pss_cons (ps_set (i := 5) sc_Ltwo.nd rfl (Or.inl rfl) (C8.pe_mt t_join_with hr (by first | decide | omega) (pe_ix (ix_tupK (K := K) rfl) (pv 1) pe_int (fun _ _ => rfl)) (pa_cons (pe_ix (ix_tupK (K := K) rfl) (pv 2) pe_int (fun _ _ => rfl)) (pa_cons (pv 4) pa_nil))))
    (C8.pss_cut (ps_if (pt_cmpR op_eq (C8.pe_c c_Ldraw hr (by first | decide | omega) rfl (pa_cons (pv 0) (pa_cons pe_int pa_nil))) pe_int (nomark _)) (pss_one (ps_set (i := 5) sc_Ltwo.nd rfl (Or.inl rfl) (Mk.pe_mtp tp_join_with_on hr (by first | decide | omega) (pe_ix (ix_tupK (K := K) rfl) (pv 1) pe_int (fun _ _ => rfl)) (pa_cons (pe_ix (ix_tupK (K := K) rfl) (pv 2) pe_int (fun _ _ => rfl)) pa_nil) (pk_cons (pv 4) pk_nil)))) pss_nil)
    (pss_cons (ps_setLc (i := 7) (own := [("_law_name", 9)]) rfl sc_Ltwo.nd rfl rfl (sw_true rfl rfl rfl (by decide +kernel)) (pi_listK (K := K) rfl (pe_op op_cat (pe_ix (ix_tupK (K := K) rfl) (pv 1) pe_int (fun _ _ => rfl)) (pe_ix (ix_tupK (K := K) rfl) (pv 2) pe_int (fun _ _ => rfl)))) (blkOk_by (N := N_Ltwo) (sc := defScope s_Ltwo) (by decide +kernel)) (fun _ _ _ _ _ => (pg_name (i := 9) sc_Ltwo.nd rfl (Or.inl rfl))) (fun _ _ _ _ _ => pts_one (pt_cmpR (op_in_seqK (K := K) rfl) (pv 9) (pe_op op_cat (pe_ix (ix_tupK (K := K) rfl) (pv 1) pe_int (fun _ _ => rfl)) (pe_ix (ix_tupK (K := K) rfl) (pv 2) pe_int (fun _ _ => rfl))) (by rfl))) (fun _ _ _ _ _ => (pv 9)))
    (pss_one (ps_ret (pe_tup (pa_cons (pv 5) (pa_cons (pv 3) (pa_cons (pe_op op_cat (pe_ix (ix_tupK (K := K) rfl) (pv 1) pe_int (fun _ _ => rfl)) (pe_ix (ix_tupK (K := K) rfl) (pv 2) pe_int (fun _ _ => rfl))) (pa_cons (pv 7) (pa_cons (pv 1) (pa_cons (pv 2) pa_nil))))))))))))) pss_nil)
    (pss_cons (ps_set (i := 5) sc_Ltwo.nd rfl (Or.inl rfl) (pe_ifExp (pt_cmpR op_eq (pv 3) pe_str (nomark _)) (C8.pe_mt t_semi_with hr (by first | decide | omega) (pe_ix (ix_tupK (K := K) rfl) (pv 1) pe_int (fun _ _ => rfl)) (pa_cons (pe_ix (ix_tupK (K := K) rfl) (pv 2) pe_int (fun _ _ => rfl)) (pa_cons (pv 4) pa_nil))) (C8.pe_mt t_anti_with hr (by first | decide | omega) (pe_ix (ix_tupK (K := K) rfl) (pv 1) pe_int (fun _ _ => rfl)) (pa_cons (pe_ix (ix_tupK (K := K) rfl) (pv 2) pe_int (fun _ _ => rfl)) (pa_cons (pv 4) pa_nil)))))
    (pss_one (ps_ret (pe_tup (pa_cons (pv 5) (pa_cons (pv 3) (pa_cons (pe_ix (ix_tupK (K := K) rfl) (pv 1) pe_int (fun _ _ => rfl)) (pa_cons (pe_ix (ix_tupK (K := K) rfl) (pv 1) pe_int (fun _ _ => rfl)) (pa_cons (pv 1) (pa_cons (pv 2) pa_nil))))))))))))))), ?_⟩
  refine ⟨_, rfl, by show 5 ≤ sizeLine; decide, fun L hL => ?_⟩
  have nLp : L ≠ p := fun z => hP.there (by rw [← z]; exact hL)
  obtain ⟨s1, P1⟩ := hP.loc (o := .lst [.str "join", .str "semi", .str "anti", .str "union", .str "union"]) hL
  have hL1 : upd H L (.lst [.str "join", .str "semi", .str "anti", .str "union", .str "union"]) L = some (.lst [.str "join", .str "semi", .str "anti", .str "union", .str "union"]) := upd_same
  generalize upd H L (.lst [.str "join", .str "semi", .str "anti", .str "union", .str "union"]) = H1 at *
  refine ⟨G, p, L, n, _, rfl, P1, by omega, hL1, nLp, by decide, by decide, fun v G2 H2 hv s2 P2 => ?_⟩
  obtain ⟨kd, hkd, rfl⟩ : ∃ kd, (kd = kJoin ∨ kd = kSemi ∨ kd = kAnti ∨ kd = kUnion) ∧ v = .str (S kd) := by
    simp only [List.mem_cons, List.mem_nil_iff, or_false] at hv
    rcases hv with rfl | rfl | rfl | rfl | rfl
    · exact ⟨kJoin, .inl rfl, by rw [kJoin_]⟩
    · exact ⟨kSemi, .inr (.inl rfl), by rw [kSemi_]⟩
    · exact ⟨kAnti, .inr (.inr (.inl rfl)), by rw [kAnti_]⟩
    · exact ⟨kUnion, .inr (.inr (.inr rfl)), by rw [kUnion_]⟩
    · exact ⟨kUnion, .inr (.inr (.inr rfl)), by rw [kUnion_]⟩
  have s02 := s1.trans s2
  have ho := ho.same s02.gg
  have ho2 := ho2.same s02.gg
  clear s1 s2 P1 hL1 hP hv
  obtain ⟨c, m, r, ins, g1, g2, g3, g4, _⟩ := id ho.ex
  obtain ⟨c', m', r', ins', k1, k2, k3, k4, _⟩ := id ho2.ex
  obtain ⟨dx, fs, h1, hno⟩ := g4.obj
  obtain ⟨dx2, fs2, e1, eno⟩ := k4.obj
  have hg := P2.gh
  have go := SqT.of (K := K) (hg _ _ g1)
  have go2 := SqT.of (K := K) (hg _ _ k1)
  have i0 : ∀ {r : List V}, atI (V.ref x :: V.str (S st.kd) :: V.ref c :: V.ref m :: r) 0 = some (.ref x) := fun {r} => atI_nat (j := 0) rfl
  refine ⟨_, rfl, rfl, _, rfl, strIf kUnion_ (fun e => ?_) (fun e => ?_)⟩
  · subst e
    refine ⟨_, rfl, o, _, 2, _, rfl, rfl, go, atI_nat (j := 2) rfl, c, _, rfl, .inl (SqL.of (hg _ _ g2)), _, rfl, o2, _, 2, _, rfl, rfl, go2, atI_nat (j := 2) rfl, c', _, rfl, .inl (SqL.of (hg _ _ k2)), rfl, _, rfl, ?_⟩
    refine ite2 (fun _ => qn _ _ s02 (P2.mono (by omega))) (fun e0 => ?_)
    have hl : st.cs.length = st2.cs.length := by
      by_cases z : st.cs.length = st2.cs.length
      · exact z
      · exact absurd (by rw [sV_len, sV_len]; simp; omega) e0
    clear e0
    refine ⟨_, rfl, o, _, 2, _, rfl, rfl, go, atI_nat (j := 2) rfl, c, _, rfl, .inl (SqL.of (hg _ _ g2)), _, rfl, by omega, by rw [sV_len]; omega, fun D hD => ?_⟩
    have nDp : D ≠ p := fun z => P2.there (by rw [← z]; exact hD)
    have gD := hg.free hD
    have hDH := s02.free hD
    have lz : (st.cs.zip st2.cs).length = st.cs.length := by rw [← List.length_map (f := fun x : Cp => x.1), zip_fst hl]
    refine lc_range (lo := 0) (n := (((sV st.cs).length : Nat) : Int).toNat) (fun j H' => Step (some p) G H G2 H' ∧ Pq G2 H' p (n + 1) ∧ H' D = some (.lst (sV (unMs st st2 ((st.cs.zip st2.cs).take j))))) ⟨s02.loc hDH gD, P2.local_ gD nDp, upd_same⟩ ?_ ?_
    · rintro j H' hj ⟨s', P', hL⟩
      have hj : j < st.cs.length := by rw [← sV_len]; exact hj
      obtain ⟨k, mk⟩ : ∃ k, st.cs[j]? = some k := ⟨_, List.getElem?_eq_getElem hj⟩
      obtain ⟨kb, mk2⟩ : ∃ k, st2.cs[j]? = some k := ⟨_, List.getElem?_eq_getElem (by omega)⟩
      have ak : atI (sV st.cs) (0 + (j : Int)) = some (.str (S k)) := by rw [Int.zero_add]; exact atI_nat (by rw [List.getElem?_map, List.getElem?_map, mk]; rfl)
      have ak2 : atI (sV st2.cs) (0 + (j : Int)) = some (.str (S kb)) := by rw [Int.zero_add]; exact atI_nat (by rw [List.getElem?_map, List.getElem?_map, mk2]; rfl)
      have mz := zip_at mk mk2
      have f1 : inV (.str (S k)) (sV st.ms) = decide (k ∈ st.ms) := inV_sV _ _
      have f2 : inV (.str (S kb)) (sV st2.ms) = decide (kb ∈ st2.ms) := inV_sV _ _
      have go' := SqT.of (K := K) (P'.gh _ _ g1)
      have go2' := SqT.of (K := K) (P'.gh _ _ k1)
      have ll : (sV (unMs st st2 ((st.cs.zip st2.cs).take j))).length < sizeLine := by
        rw [sV_len, List.length_map]
        have := List.length_filter_le (unP st st2) ((st.cs.zip st2.cs).take j)
        rw [List.length_take] at this
        omega
      have yes : unP st st2 (k, kb) = true → Step (some p) G H G2 (upd H' D (.lst (sV (unMs st st2 ((st.cs.zip st2.cs).take j)) ++ [V.str (S k)]))) ∧ Pq G2 (upd H' D (.lst (sV (unMs st st2 ((st.cs.zip st2.cs).take j)) ++ [V.str (S k)]))) p (n + 1) ∧ (upd H' D (.lst (sV (unMs st st2 ((st.cs.zip st2.cs).take j)) ++ [V.str (S k)]))) D = some (.lst (sV (unMs st st2 ((st.cs.zip st2.cs).take (j + 1))))) := fun hb => by
        refine ⟨s'.loc hDH gD, P'.local_ gD nDp, ?_⟩
        rw [upd_same]
        show _ = some (HO.lst (sV (((((st.cs.zip st2.cs).take (j + 1)).filter (unP st st2))).map (·.1))))
        rw [filter_takeP mz, if_pos hb, List.map_append, ← sV_app]
        rfl
      refine ⟨rfl, ?_⟩
      refine ⟨_, rfl, o, _, 2, _, rfl, rfl, go', atI_nat (j := 2) rfl, _, rfl, c, _, 0 + (j : Int), _, rfl, rfl, SqL.of (P'.gh _ _ g2), ak, _, rfl, o, _, 3, _, rfl, rfl, go', atI_nat (j := 3) rfl, m, sV st.ms, rfl, .inl (SqL.of (P'.gh _ _ g3)), rfl, sV_flat _, _, rfl, ?_⟩
      refine ite2 (fun hb => ?_) (fun hb => ?_)
      · have hb : decide (k ∈ st.ms) = true := f1.symm.trans hb
        refine iteT ⟨_, rfl, o, _, 2, _, rfl, rfl, go', atI_nat (j := 2) rfl, _, rfl, c, _, 0 + (j : Int), _, rfl, rfl, SqL.of (P'.gh _ _ g2), ak, _, hL, ll, yes ?_⟩
        show (_ || _) = true
        rw [hb, Bool.true_or]
      have hb : ¬ decide (k ∈ st.ms) = true := fun z => hb (f1.trans z)
      refine ⟨_, rfl, o2, _, 2, _, rfl, rfl, go2', atI_nat (j := 2) rfl, _, rfl, c', _, 0 + (j : Int), _, rfl, rfl, SqL.of (P'.gh _ _ k2), ak2, _, rfl, o2, _, 3, _, rfl, rfl, go2', atI_nat (j := 3) rfl, m', sV st2.ms, rfl, .inl (SqL.of (P'.gh _ _ k3)), rfl, sV_flat _, _, rfl, ?_⟩
      refine ite2 (fun hb2 => ?_) (fun hb2 => ?_)
      · have hb2 : decide (kb ∈ st2.ms) = true := f2.symm.trans hb2
        refine ⟨_, rfl, o, _, 2, _, rfl, rfl, go', atI_nat (j := 2) rfl, _, rfl, c, _, 0 + (j : Int), _, rfl, rfl, SqL.of (P'.gh _ _ g2), ak, _, hL, ll, yes ?_⟩
        show (_ || _) = true
        rw [hb2, Bool.or_true]
      have hb2 : ¬ decide (kb ∈ st2.ms) = true := fun z => hb2 (f2.trans z)
      refine ⟨s', P', ?_⟩
      have no : ¬ unP st st2 (k, kb) = true := by
        show ¬ ((_ || _) = true)
        rw [eq_false_of_ne_true hb, eq_false_of_ne_true hb2]
        decide
      rw [hL]
      show _ = some (HO.lst (sV (((((st.cs.zip st2.cs).take (j + 1)).filter (unP st st2))).map (·.1))))
      rw [filter_takeP mz, if_neg no, List.append_nil]
    rintro H3 ⟨s3, P3, hD3⟩
    have hD3 : H3 D = some (.lst (sV (unMs st st2 (st.cs.zip st2.cs)))) := by
      rw [hD3, show (((sV st.cs).length : Nat) : Int).toNat = (st.cs.zip st2.cs).length by rw [lz, sV_len]; rfl, List.take_length]
    have sF := s3.freeze (q := D) hDH hD3 gD
    have PF := P3.frz hD3 gD nDp
    have gl : upd G2 D (.lst (sV (unMs st st2 (st.cs.zip st2.cs)))) D = _ := upd_same
    have sg : Same G2 (upd G2 D (.lst (sV (unMs st st2 (st.cs.zip st2.cs))))) := Same.new (Same.refl G2) gD
    have ho := ho.same sg
    have ho2 := ho2.same sg
    have g1 := sg _ _ g1
    have g2 := sg _ _ g2
    have k1 := sg _ _ k1
    have h1 := sg _ _ h1
    have e1 := sg _ _ e1
    have at1 := g4.same sg
    have at2 := k4.same sg
    generalize upd G2 D (.lst (sV (unMs st st2 (st.cs.zip st2.cs)))) = G3 at *
    clear s02 s3 P2 P3 hD3 gD hDH hg go go2 sg g4 k4 g3 k2 k3
    refine ⟨_, rfl, o, _, 0, _, rfl, rfl, SqT.of (PF.gh _ _ g1), atI_nat (j := 0) rfl, _, rfl, o2, _, 0, _, rfl, rfl, SqT.of (PF.gh _ _ k1), atI_nat (j := 0) rfl, x, x2, dx, dx2, fs, fs2, rfl, rfl, PF.gh _ _ h1, PF.gh _ _ e1, G3, x, x2, st, st2, ins, ins', rfl, PF.gh, at1, at2, gd.ok, gd2.ok, hl, fun G4 H4 x3 s4 at3 _ => ⟨x3, rfl, ?_⟩⟩
    have P4 := PF.step s4
    have s04 := sF.trans s4.some_
    refine ⟨_, rfl, _, rfl, o, _, 2, _, rfl, rfl, SqT.of (P4.gh _ _ (s4.gg _ _ g1)), atI_nat (j := 2) rfl, _, rfl, _, rfl, _, rfl, by show 6 ≤ sizeLine; decide, fun t ht => ?_⟩
    obtain ⟨s5, P5⟩ := P4.new_ (o := .tup [V.ref x3, .str (S kUnion), .ref c, .ref D, .ref o, .ref o2]) ht
    have s45 := s4.gg.trans s5.gg
    exact q t _ _ (s04.trans s5) (P5.mono (by omega)) (one_two (st := ⟨kUnion, st.cs, unMs st st2 (st.cs.zip st2.cs), unDs st st2 (st.cs.zip st2.cs)⟩) upd_same (s45 _ _ g2) (s45 _ _ gl) (at3.same s5.gg) (ho.same s45) (ho2.same s45) gd gd2 (good_union gd gd2 hl))
  refine ⟨_, rfl, _, rfl, _, rfl, G2, p, o, x, o2, x2, n + 1, st, st2, rfl, P2, by omega, ho.b, ho2.b, gd, gd2, fun G3 H3 s3 P3 => ⟨_, rfl, rfl, _, rfl, iteT (qn _ _ (s02.trans s3) (P3.mono (by omega)))⟩, fun l ps G3 H3 s3 P3 hps okp => ?_⟩
  refine ⟨_, rfl, rfl, _, rfl, iteF ?_⟩
  have s03 := s02.trans s3
  have sg := s3.gg
  have ho := ho.same sg
  have ho2 := ho2.same sg
  have g1 := sg _ _ g1
  have g2 := sg _ _ g2
  have g3 := sg _ _ g3
  have k1 := sg _ _ k1
  have k2 := sg _ _ k2
  have k3 := sg _ _ k3
  have h1 := sg _ _ h1
  have e1 := sg _ _ e1
  have at1 := g4.same sg
  have at2 := k4.same sg
  clear s02 s3 P2 hg go go2 sg g4 k4
  have hg := P3.gh
  refine ⟨_, rfl, rfl, _, rfl, strIf kJoin_ (fun ej => ?_) (fun ej => ?_)⟩
  · subst ej
    have go := SqT.of (K := K) (hg _ _ g1)
    have go2 := SqT.of (K := K) (hg _ _ k1)
    refine ⟨_, rfl, o, _, 2, _, rfl, rfl, go, atI_nat (j := 2) rfl, c, rfl, ⟨_, SqL.of (hg _ _ g2)⟩, fun D hD => ?_⟩
    have nDp : D ≠ p := fun z => P3.there (by rw [← z]; exact hD)
    have gD := hg.free hD
    have hDH := s03.free hD
    refine lc_list (K := K) (a := c) (xs := sV st.cs) (fun i H' => Step (some p) G H G3 H' ∧ Pq G3 H' p (n + 1 + 10) ∧ H' D = some (.lst (sV ((st.cs.take i).filter fun x => decide (x ∈ st2.cs))))) ⟨s03.loc hDH gD, P3.local_ gD nDp, upd_same⟩ ?_ ?_ ?_
    · rintro i H' _ ⟨s', P', _⟩
      exact SqL.of (P'.gh _ _ g2)
    · rintro i y H' hx ⟨s', P', hL⟩
      obtain ⟨k, mk, rfl, hi⟩ := sV_at' hx
      refine ⟨rfl, ?_⟩
      refine ⟨_, rfl, _, rfl, o2, _, 2, _, rfl, rfl, SqT.of (P'.gh _ _ k1), atI_nat (j := 2) rfl, c', sV st2.cs, rfl, .inl (SqL.of (P'.gh _ _ k2)), rfl, sV_flat _, _, rfl, ?_⟩
      have f1 : inV (.str (S k)) (sV st2.cs) = decide (k ∈ st2.cs) := inV_sV _ _
      have f2 := filter_take (f := fun x => decide (x ∈ st2.cs)) mk
      refine ite2 (fun hb => ?_) (fun hb => ?_)
      · have hb : decide (k ∈ st2.cs) = true := f1.symm.trans hb
        refine ⟨_, rfl, _, hL, by rw [sV_len]; have := List.length_filter_le (fun x => decide (x ∈ st2.cs)) (st.cs.take i); rw [List.length_take] at this; omega, s'.loc hDH gD, P'.local_ gD nDp, ?_⟩
        rw [upd_same, f2, if_pos hb, ← sV_app]
        rfl
      · have hb : ¬ decide (k ∈ st2.cs) = true := fun z => hb (f1.trans z)
        refine ⟨s', P', ?_⟩
        rw [f2, if_neg hb, List.append_nil]
        exact hL
    rintro H4 ⟨s4, P4, hL4⟩
    rw [sV_len, List.take_length] at hL4
    refine ⟨by show 0 ≤ sizeLine; decide, fun e0 he0 => ?_⟩
    obtain ⟨s5, P5⟩ := P4.loc (o := .lst []) he0
    have he1 : upd H4 e0 (.lst []) e0 = some (.lst []) := upd_same
    have hL5 := (Same.new (Same.refl H4) he0 (o := .lst [])) _ _ hL4
    have s05 := s4.trans s5
    generalize upd H4 e0 (.lst []) = H5 at *
    clear s4 s5 P4 hL4 hD gD hDH go go2 hg s03 P3
    have hg := P5.gh
    have go := SqT.of (K := K) (hg _ _ g1)
    have go2 := SqT.of (K := K) (hg _ _ k1)
    have shl : SeqAt.shaped (.list (strsD (st.cs.filter fun x => decide (x ∈ st2.cs)))) = true := by
      obtain ⟨z1, z2⟩ := lay_strs (xs := st.cs.filter fun x => decide (x ∈ st2.cs)) fun y hy => gd.ok.nc y (List.mem_filter.mp hy).1
      unfold SeqAt.shaped
      simp [PyData.canLay0, PyData.depth, z1, z2]
    have ev : ∀ xs : List (List Nat), PyData.eqv (.list (strsD xs)) (.list []) = decide (xs = []) := fun xs => by
      cases xs with
      | nil => simp [strsD, PyData.eqv, PyData.eqvAll]
      | cons x r => simp [strsD, PyData.eqv, PyData.eqvAll]
    refine ⟨_, _, .lst (SqL.of hL5) (dp_sV _), .lst (SqL.of he1) .nil, shl, by decide, _, rfl, ?_⟩
    rw [ev]
    refine ite2 (fun _ => qn _ _ s05 (P5.mono (by omega))) (fun e0 => ?_)
    have dj : ∀ c ∈ st.cs, c ∉ st2.cs := fun c hc hc2 => by
      have e1 : (st.cs.filter fun x => decide (x ∈ st2.cs)) = [] := by
        by_cases z : (st.cs.filter fun x => decide (x ∈ st2.cs)) = []
        · exact z
        · exact absurd (by rw [decide_eq_false z]; rfl) e0
      have : c ∈ st.cs.filter fun x => decide (x ∈ st2.cs) := List.mem_filter.mpr ⟨hc, decide_eq_true hc2⟩
      rw [e1] at this
      cases this
    clear e0 hL5 shl
    refine ⟨_, rfl, o, _, 0, _, rfl, rfl, go, atI_nat (j := 0) rfl, x, dx, fs, rfl, hg _ _ h1, hno _ (by decide +kernel), _, rfl, o2, _, 0, _, rfl, rfl, go2, atI_nat (j := 0) rfl, _, rfl, G3, x, x2, l, st, st2, ins, ins', ps, rfl, hg, at1, at2, gd.ok, gd2.ok, dj, hps.same hg, okp, fun G6 H6 x3 s6 at3 _ => ?_⟩
    have P6 := P5.step s6
    have s06 := s05.trans s6.some_
    have sg := s6.gg
    have hps := hps.same sg
    have ho := ho.same sg
    have ho2 := ho2.same sg
    have g1 := sg _ _ g1
    have g2 := sg _ _ g2
    have g3 := sg _ _ g3
    have k1 := sg _ _ k1
    have k2 := sg _ _ k2
    have k3 := sg _ _ k3
    have h1 := sg _ _ h1
    have e1 := sg _ _ e1
    have at1 := at1.same sg
    have at2 := at2.same sg
    clear s05 s6 P5 hg go go2 sg he1
    refine ⟨fun σ' H' => ∃ (x4 : Addr) (G7 : Hp), σ' = [some (.ref p), some (.ref o), some (.ref o2), some (.str (S kJoin)), some (.ref l), some (.ref x4), none, none, none, none] ∧ Same G6 G7 ∧ Step (some p) G H G7 H' ∧ Pq G7 H' p (n + 1 + 10 + 1) ∧ StAt K (CSt K) G7 x4 ⟨kJoin, st.cs ++ st2.cs, st.ms ++ st2.ms, st.ds ++ st2.ds⟩ [.ref x, .ref x2], ?_, ?_⟩
    · refine ⟨_, rfl, G6, p, n + 1 + 10, 2, rfl, P6, by omega, by decide, by decide, fun d G7 H7 s7 P7 _ _ => ⟨rfl, _, rfl, ?_⟩⟩
      have s07 := s06.trans s7
      refine ite2 (fun _ => ?_) (fun _ => ⟨x3, G7, rfl, s7.gg, s07, P7, at3.same s7.gg⟩)
      have hg := P7.gh
      have go := SqT.of (K := K) (hg _ _ (s7.gg _ _ g1))
      have go2 := SqT.of (K := K) (hg _ _ (s7.gg _ _ k1))
      refine ⟨_, rfl, o, _, 0, _, rfl, rfl, go, atI_nat (j := 0) rfl, x, dx, fs, rfl, hg _ _ (s7.gg _ _ h1), hno _ (by decide +kernel), _, rfl, o2, _, 0, _, rfl, rfl, go2, atI_nat (j := 0) rfl, _, rfl, rfl, rfl, G7, x, x2, l, st, st2, ins, ins', ps, rfl, hg, at1.same s7.gg, at2.same s7.gg, gd.ok, gd2.ok, dj, (hps.same s7.gg).same hg, okp, fun G8 H8 x4 s8 at4 _ => ?_⟩
      exact ⟨x4, G8, rfl, s7.gg.trans s8.gg, s07.trans s8.some_, P7.step s8, at4⟩
    rintro σ' H7 ⟨x4, G7, rfl, sg, s07, P7, at4⟩
    have ho := ho.same sg
    have ho2 := ho2.same sg
    have g1 := sg _ _ g1
    have g2 := sg _ _ g2
    have g3 := sg _ _ g3
    have k1 := sg _ _ k1
    have k2 := sg _ _ k2
    have k3 := sg _ _ k3
    clear s06 P6 at3 at1 at2 h1 e1 hps sg
    have hg := P7.gh
    have go := SqT.of (K := K) (hg _ _ g1)
    have go2 := SqT.of (K := K) (hg _ _ k1)
    refine ⟨_, rfl, o, _, 2, _, rfl, rfl, go, atI_nat (j := 2) rfl, _, rfl, o2, _, 2, _, rfl, rfl, go2, atI_nat (j := 2) rfl, c, c', sV st.cs, sV st2.cs, rfl, rfl, hg _ _ g2, hg _ _ k2, by rw [sV_len, sV_len]; omega, fun B hB => ?_⟩
    rw [sV_app]
    obtain ⟨s8, P8⟩ := P7.loc (o := .lst (sV (st.cs ++ st2.cs))) hB
    have hB8 : upd H7 B (.lst (sV (st.cs ++ st2.cs))) B = some (.lst (sV (st.cs ++ st2.cs))) := upd_same
    have s08 := s07.trans s8
    generalize upd H7 B (.lst (sV (st.cs ++ st2.cs))) = H8 at *
    clear s07 s8 P7 hg go go2
    refine ⟨B, rfl, ⟨_, SqL.of hB8⟩, fun D2 hD2 => ?_⟩
    have lc3 : (st.cs ++ st2.cs).length ≤ 120 := by rw [List.length_append]; omega
    have lm : (st.ms ++ st2.ms).length ≤ 120 := by
      have z1 := nodup_len gd.ok.nm gd.ok.ms
      have z2 := nodup_len gd2.ok.nm gd2.ok.ms
      rw [List.length_append]; omega
    have nDp2 : D2 ≠ p := fun z => P8.there (by rw [← z]; exact hD2)
    have gD2 := P8.gh.free hD2
    have hDH2 := s08.free hD2
    have nBD : B ≠ D2 := ne_of_none hB8 hD2
    have gj := good_join gd gd2 dj
    have mo3 : st.ms ++ st2.ms = (st.cs ++ st2.cs).filter fun c => decide (c ∈ st.ms ++ st2.ms) := gj.mo
    refine lc_list (K := K) (a := B) (xs := sV (st.cs ++ st2.cs)) (fun i H' => Step (some p) G H G7 H' ∧ Pq G7 H' p (n + 1 + 10 + 1) ∧ H' B = some (.lst (sV (st.cs ++ st2.cs))) ∧ H' D2 = some (.lst (sV (((st.cs ++ st2.cs).take i).filter fun x => decide (x ∈ st.ms ++ st2.ms))))) ⟨s08.loc hDH2 gD2, P8.local_ gD2 nDp2, by rw [upd_ne nBD]; exact hB8, upd_same⟩ ?_ ?_ ?_
    · rintro i H' _ ⟨_, _, h', _⟩
      exact SqL.of h'
    · rintro i y H' hx ⟨s', P', hB', hL⟩
      obtain ⟨k, mk, rfl, hi⟩ := sV_at' hx
      refine ⟨rfl, ?_⟩
      refine ⟨_, rfl, _, rfl, o, _, 3, _, rfl, rfl, SqT.of (P'.gh _ _ g1), atI_nat (j := 3) rfl, _, rfl, o2, _, 3, _, rfl, rfl, SqT.of (P'.gh _ _ k1), atI_nat (j := 3) rfl, m, m', sV st.ms, sV st2.ms, rfl, rfl, P'.gh _ _ g3, P'.gh _ _ k3, by rw [sV_len, sV_len, ← List.length_append]; omega, fun e he => ?_⟩
      rw [sV_app]
      obtain ⟨s9, P9⟩ := P'.loc (o := .lst (sV (st.ms ++ st2.ms))) he
      have he9 : upd H' e (.lst (sV (st.ms ++ st2.ms))) e = some (.lst (sV (st.ms ++ st2.ms))) := upd_same
      have hB9 := (Same.new (Same.refl H') he (o := .lst (sV (st.ms ++ st2.ms)))) _ _ hB'
      have hL9 := (Same.new (Same.refl H') he (o := .lst (sV (st.ms ++ st2.ms)))) _ _ hL
      have s' := s'.trans s9
      generalize upd H' e (.lst (sV (st.ms ++ st2.ms))) = H9 at *
      refine ⟨e, sV (st.ms ++ st2.ms), rfl, .inl (SqL.of he9), rfl, sV_flat _, _, rfl, ?_⟩
      have f1 : inV (.str (S k)) (sV (st.ms ++ st2.ms)) = decide (k ∈ st.ms ++ st2.ms) := inV_sV _ _
      have f2 := filter_take (f := fun x => decide (x ∈ st.ms ++ st2.ms)) mk
      refine ite2 (fun hb => ?_) (fun hb => ?_)
      · have hb : decide (k ∈ st.ms ++ st2.ms) = true := f1.symm.trans hb
        refine ⟨_, rfl, _, hL9, by rw [sV_len]; have := List.length_filter_le (fun x => decide (x ∈ st.ms ++ st2.ms)) ((st.cs ++ st2.cs).take i); rw [List.length_take] at this; omega, s'.loc hDH2 gD2, P9.local_ gD2 nDp2, by rw [upd_ne nBD]; exact hB9, ?_⟩
        rw [upd_same, f2, if_pos hb, ← sV_app]
        rfl
      · have hb : ¬ decide (k ∈ st.ms ++ st2.ms) = true := fun z => hb (f1.trans z)
        refine ⟨s', P9, hB9, ?_⟩
        rw [f2, if_neg hb, List.append_nil]
        exact hL9
    rintro H9 ⟨s9, P9, _, hL9⟩
    rw [sV_len, List.take_length, ← mo3] at hL9
    have sF := s9.freeze (q := D2) hDH2 hL9 gD2
    have PF := P9.frz hL9 gD2 nDp2
    have gl : upd G7 D2 (.lst (sV (st.ms ++ st2.ms))) D2 = _ := upd_same
    have sg : Same G7 (upd G7 D2 (.lst (sV (st.ms ++ st2.ms)))) := Same.new (Same.refl G7) gD2
    have ho := ho.same sg
    have ho2 := ho2.same sg
    have g1 := sg _ _ g1
    have g2 := sg _ _ g2
    have k1 := sg _ _ k1
    have k2 := sg _ _ k2
    have at4 := at4.same sg
    generalize upd G7 D2 (.lst (sV (st.ms ++ st2.ms))) = G8 at *
    clear s08 s9 P8 P9 hL9 hB8 hB hD2 gD2 hDH2 sg g3 k3
    refine ⟨_, rfl, _, rfl, _, rfl, o, _, 2, _, rfl, rfl, SqT.of (PF.gh _ _ g1), atI_nat (j := 2) rfl, _, rfl, o2, _, 2, _, rfl, rfl, SqT.of (PF.gh _ _ k1), atI_nat (j := 2) rfl, c, c', sV st.cs, sV st2.cs, rfl, rfl, PF.gh _ _ g2, PF.gh _ _ k2, by rw [sV_len, sV_len]; omega, fun B2 hB2 => ?_⟩
    rw [sV_app]
    obtain ⟨s10, P10⟩ := PF.new_ (o := .lst (sV (st.cs ++ st2.cs))) hB2
    have gb : upd G8 B2 (.lst (sV (st.cs ++ st2.cs))) B2 = some (.lst (sV (st.cs ++ st2.cs))) := upd_same
    have gl10 := s10.gg _ _ gl
    have at5 := at4.same s10.gg
    have ho := ho.same s10.gg
    have ho2 := ho2.same s10.gg
    have s010 := sF.trans s10
    generalize upd G8 B2 (.lst (sV (st.cs ++ st2.cs))) = G9 at *
    generalize upd H9 B2 (.lst (sV (st.cs ++ st2.cs))) = H10 at *
    refine ⟨_, rfl, _, rfl, _, rfl, by show 6 ≤ sizeLine; decide, fun t ht => ?_⟩
    obtain ⟨s11, P11⟩ := P10.new_ (o := .tup [V.ref x4, .str (S kJoin), .ref B2, .ref D2, .ref o, .ref o2]) ht
    exact q t _ _ (s010.trans s11) (P11.mono (by omega)) (one_two (st := ⟨kJoin, st.cs ++ st2.cs, st.ms ++ st2.ms, st.ds ++ st2.ds⟩) upd_same (s11.gg _ _ gb) (s11.gg _ _ gl10) (at5.same s11.gg) (ho.same s11.gg) (ho2.same s11.gg) gd gd2 gj)
  · have go := SqT.of (K := K) (hg _ _ g1)
    have go2 := SqT.of (K := K) (hg _ _ k1)
    refine ⟨_, rfl, rfl, _, rfl, strIf kSemi_ (fun es => ?_) (fun es => ?_)⟩
    · subst es
      refine ⟨_, rfl, o, _, 0, _, rfl, rfl, go, atI_nat (j := 0) rfl, x, dx, fs, rfl, hg _ _ h1, hno _ (by decide +kernel), _, rfl, o2, _, 0, _, rfl, rfl, go2, atI_nat (j := 0) rfl, _, rfl, G3, x, x2, l, st, st2, ins, ins', ps, rfl, hg, at1, at2, gd.ok.dpo, hps.same hg, okp, fun G6 H6 x3 s6 at3 _ => ?_⟩
      have P6 := P3.step s6
      refine ⟨_, rfl, _, rfl, _, rfl, o, _, 2, _, rfl, rfl, SqT.of (P6.gh _ _ (s6.gg _ _ g1)), atI_nat (j := 2) rfl, _, rfl, o, _, 3, _, rfl, rfl, SqT.of (P6.gh _ _ (s6.gg _ _ g1)), atI_nat (j := 3) rfl, _, rfl, _, rfl, by show 6 ≤ sizeLine; decide, fun t ht => ?_⟩
      obtain ⟨s7, P7⟩ := P6.new_ (o := .tup [V.ref x3, .str (S kSemi), .ref c, .ref m, .ref o, .ref o2]) ht
      have s67 := s6.gg.trans s7.gg
      exact q t _ _ ((s03.trans s6.some_).trans s7) (P7.mono (by omega)) (one_two (st := { st with kd := kSemi }) upd_same (s67 _ _ g2) (s67 _ _ g3) (at3.same s7.gg) (ho.same s67) (ho2.same s67) gd gd2 (gd.kd kSemi (by decide +kernel)))
    · obtain rfl : kd = kAnti := by
        rcases hkd with z | z | z | z
        · exact absurd z ej
        · exact absurd z es
        · exact z
        · exact absurd z e
      refine ⟨_, rfl, o, _, 0, _, rfl, rfl, go, atI_nat (j := 0) rfl, x, dx, fs, rfl, hg _ _ h1, hno _ (by decide +kernel), _, rfl, o2, _, 0, _, rfl, rfl, go2, atI_nat (j := 0) rfl, _, rfl, G3, x, x2, l, st, st2, ins, ins', ps, rfl, hg, at1, at2, gd.ok.dpo, hps.same hg, okp, fun G6 H6 x3 s6 at3 _ => ?_⟩
      have P6 := P3.step s6
      refine ⟨_, rfl, _, rfl, _, rfl, o, _, 2, _, rfl, rfl, SqT.of (P6.gh _ _ (s6.gg _ _ g1)), atI_nat (j := 2) rfl, _, rfl, o, _, 3, _, rfl, rfl, SqT.of (P6.gh _ _ (s6.gg _ _ g1)), atI_nat (j := 3) rfl, _, rfl, _, rfl, by show 6 ≤ sizeLine; decide, fun t ht => ?_⟩
      obtain ⟨s7, P7⟩ := P6.new_ (o := .tup [V.ref x3, .str (S kAnti), .ref c, .ref m, .ref o, .ref o2]) ht
      have s67 := s6.gg.trans s7.gg
      exact q t _ _ ((s03.trans s6.some_).trans s7) (P7.mono (by omega)) (one_two (st := { st with kd := kAnti }) upd_same (s67 _ _ g2) (s67 _ _ g3) (at3.same s7.gg) (ho.same s67) (ho2.same s67) gd gd2 (gd.kd kAnti (by decide +kernel)))
end Pf
namespace Bs
open PySem PySem.Spec PyProof.Rows L2 SX
def spLaw (K : PySem.W.Frag) : Sp := fun vs H Q _ => ∃ (a : Addr) (ns : List Int), vs = [.ref a] ∧ Fz K H a (ns.map V.int) ∧ ns.length ≤ 63 ∧ ∀ H' : Hp, Q (.bl true) H'
end Bs
namespace Pf
open PySem PySem.Spec PyProof.Rows L2 Bs SX
variable {P : Program} {w : World} {K : PySem.W.Frag} {mg : Str → Option Value} {base : Heap}
abbrev N_law : List Str := ["_law_script", "_law_pen_here", "_law_turn", "_law_bases", "_law_found", "_law_number", "_law_made", "_law_at", "_law_one", "_law_other"]
theorem sc_law : FnScope N_law ["_law_script"] (defScope s_law) := ⟨rfl, rfl, rfl, by decide +kernel, rfl, by decide +kernel, by decide +kernel⟩
theorem o_law (T : Tx K mg) {fd : FuncData} (F : FunD K d_law.2.name d_law.2.qual d_law.2.params d_law.2.body d_law.2.scope (d_law.2.dvs K) (d_law.2.kws K) (d_law.1 K) fd) : FnOk P w K mg base C8.CX0 9 (d_law.1 K) fd ["_law_script"] (spLaw K) := by
  have c_Lpen := c_Lpen (P := P) (w := w) (base := base) T
  have c_Ldraw := c_Ldraw (P := P) (w := w) (base := base) T
  have c_Lpick := c_Lpick (P := P) (w := w) (base := base) T
  have c_Lbase := c_Lbase (P := P) (w := w) (base := base) T
  have c_Ltwo := c_Ltwo (P := P) (w := w) (base := base) T
  have c_Lright := c_Lright (P := P) (w := w) (base := base) T
  refine ok0' (k := 8) F sc_law (fun vs H Q E h => ?_) (fun cdv A outer s H vs Q E hr h => ?_)
  · obtain ⟨a, ns, rfl, _⟩ := h
    rfl
  obtain ⟨a, ns, rfl, hS, h63, q⟩ := h
  have sl : sizeLine = 16777216 := rfl
  refine ⟨_, (pss_cons (ps_set (i := 1) sc_law.nd rfl (Or.inr rfl) (C8.pe_c c_Lpen hr (by first | decide | omega) rfl (pa_cons (pv 0) pa_nil)))
    (pss_cons (ps_for PassesOwn.never rfl (pi_range1 (by rfl) (z_range T) (pa_cons pe_int pa_nil)) (pg_name (i := 2) sc_law.nd rfl (Or.inl rfl)) (pss_cons (ps_setLc (i := 3) (own := [("_law_at", 7)]) rfl sc_law.nd rfl rfl (sw_true rfl rfl rfl (by decide +kernel)) (pi_range1 (by rfl) (z_range T) (pa_cons pe_int pa_nil)) (blkOk_by (N := N_law) (sc := defScope s_law) (by decide +kernel)) (fun _ _ _ _ _ => (pg_name (i := 7) sc_law.nd rfl (Or.inl rfl))) (fun _ _ _ _ _ => pts_nil) (fun _ _ _ _ _ => (C8.pe_c c_Lbase hr (by first | decide | omega) rfl (pa_cons (pv 1) (pa_cons (pv 7) pa_nil)))))
    (pss_cons (ps_set (i := 4) sc_law.nd rfl (Or.inl rfl) (pe_callTy call_list_of (by rfl) (z_list T) boot_list (pa_cons (pv 3) pa_nil)))
    (pss_cons (ps_for PassesOwn.never rfl (pi_range1 (by rfl) (z_range T) (pa_cons pe_int pa_nil)) (pg_name (i := 5) sc_law.nd rfl (Or.inl rfl)) (pss_cons (ps_par (i := 8) (j := 9) rfl sc_law.nd rfl rfl (by decide) rfl rfl (pa_cons (C8.pe_c c_Lpick hr (by first | decide | omega) rfl (pa_cons (pv 1) (pa_cons (pv 4) pa_nil))) (pa_cons (C8.pe_c c_Lpick hr (by first | decide | omega) rfl (pa_cons (pv 1) (pa_cons (pv 3) pa_nil))) pa_nil)) rfl)
    (C8.pss_cut (ps_if (pt_cmpR op_eq (C8.pe_c c_Ldraw hr (by first | decide | omega) rfl (pa_cons (pv 1) (pa_cons pe_int pa_nil))) pe_int (nomark _)) (pss_one (ps_par (i := 8) (j := 9) rfl sc_law.nd rfl rfl (by decide) rfl rfl (pa_cons (pv 9) (pa_cons (pv 8) pa_nil)) rfl)) pss_nil)
    (pss_cons (ps_set (i := 6) sc_law.nd rfl (Or.inl rfl) (C8.pe_c c_Ltwo hr (by first | decide | omega) rfl (pa_cons (pv 1) (pa_cons (pv 8) (pa_cons (pv 9) pa_nil)))))
    (pss_one (ps_if (pt_cmpR op_notN (pv 6) pe_non (nomark _)) (pss_one (ps_expr (pe_bm PySem.F.plainAttrs_list PySem.F.slot_list_append PySem.F.type_list_append mt_append (pv 4) (pa_cons (pv 6) pa_nil)))) pss_nil))))))
    (pss_one (ps_if (pt_not (pt_val (pe_callB (cr_all rfl) (by rfl) (z_all T) boot_all (pa_cons (pe_lc (own := [("_law_one", 8)]) rfl sc_law.nd (pi_listK (K := K) rfl (pe_op op_cat (pv 4) (pe_revL (pv 4)))) (blkOk_by (N := N_law) (sc := defScope s_law) (by decide +kernel)) (fun _ _ _ _ _ => (pg_name (i := 8) sc_law.nd rfl (Or.inl rfl))) (fun _ _ _ _ _ => pts_nil) (fun _ _ _ _ _ => (C8.pe_c c_Lright hr (by first | decide | omega) rfl (pa_cons (pv 8) pa_nil)))) pa_nil)))) (pss_one (ps_ret pe_bl)) pss_nil))))))
    (pss_one (ps_ret pe_bl)))), ?_⟩
  refine ⟨_, rfl, a, ns, rfl, hS.sq, fun p G0 H0 k0 P0 => ?_⟩
  refine ⟨4, rfl, by decide, by decide, for_range (lo := 0) (n := 4) (fun i σ H' => ∃ (v2 v3 v4 v5 v6 v7 v8 v9 : Option V) (G' : Hp), σ = [some (.ref a), some (.ref p), v2, v3, v4, v5, v6, v7, v8, v9] ∧ Pq G' H' p (1000 * i))
    ⟨_, _, _, _, _, _, _, _, G0, rfl, P0⟩ ?_ ?_⟩
  rotate_left
  · rintro σ H' ⟨v2, v3, v4, v5, v6, v7, v8, v9, G', rfl, ps⟩
    exact q _
  rintro i σ H' hi ⟨v2, v3, v4, v5, v6, v7, v8, v9, G', rfl, ps⟩
  -- the bases
  refine ⟨3, rfl, by decide, by decide, fun D hD => ?_⟩
  have nDp : D ≠ p := fun z => ps.there (by rw [← z]; exact hD)
  have gD := ps.gh.free hD
  refine lc_range (lo := 0) (n := 3) (fun j H2 => ∃ (G2 : Hp) (os : List Addr), Pq G2 H2 p (1000 * i + 20 * j) ∧ G2 D = none ∧ H2 D = some (.lst (os.map V.ref)) ∧ os.length = j ∧ ∀ o ∈ os, One K (CSt K) G2 o) ⟨G', [], (ps.loc (o := .lst []) hD).2, gD, upd_same, rfl, fun o ho => by cases ho⟩ ?_ ?_
  · rintro j H2 hj ⟨G2, os, P2, gD2, hD2, lo, hall⟩
    refine ⟨rfl, ?_⟩
    unfold tYes
    refine iteT ⟨_, rfl, _, rfl, G2, p, _, j, by rw [Int.zero_add]; rfl, P2, by omega, hj, fun o G3 H3 s3 P3 on => ?_⟩
    have hD3 := s3.kpc _ _ hD2 nDp
    have gD3 := s3.out gD2 (by rw [hD2]; exact fun z => by cases z)
    refine ⟨_, hD3, by rw [List.length_map]; omega, G3, os ++ [o], (P3.mono (by omega)).local_ gD3 nDp, gD3, ?_, by rw [List.length_append, lo]; rfl, fun o' ho => ?_⟩
    · rw [upd_same, List.map_append]
      rfl
    · rcases List.mem_append.mp ho with ho | ho
      · exact (hall o' ho).same s3.gg
      · rw [List.mem_singleton.mp ho]
        exact on
  rintro H2 ⟨G2, bs, P2, gD2, hD2, lb, hallb⟩
  have PF := P2.frz hD2 gD2 nDp
  have sg : Same G2 (upd G2 D (.lst (bs.map V.ref))) := Same.new (Same.refl G2) gD2
  have gb : upd G2 D (.lst (bs.map V.ref)) D = some (.lst (bs.map V.ref)) := upd_same
  have hallb : ∀ o ∈ bs, One K (CSt K) (upd G2 D (.lst (bs.map V.ref))) o := fun o ho => (hallb o ho).same sg
  generalize upd G2 D (.lst (bs.map V.ref)) = G3 at *
  clear P2 gD2 hD2 sg gD hD ps
  refine ⟨_, rfl, D, _, rfl, .inl (SqL.of (PF.gh _ _ gb)), fun Fo hF => ?_⟩
  have nFp : Fo ≠ p := fun z => PF.there (by rw [← z]; exact hF)
  have gF := PF.gh.free hF
  have nFD : Fo ≠ D := fun z => by rw [z, gb] at gF; cases gF
  obtain ⟨_, P8⟩ := PF.loc (o := .lst (bs.map V.ref)) hF
  have hF8 : upd H2 Fo (.lst (bs.map V.ref)) Fo = some (.lst (bs.map V.ref)) := upd_same
  generalize upd H2 Fo (.lst (bs.map V.ref)) = H8 at *
  refine ⟨8, rfl, by decide, by decide, for_range (lo := 0) (n := 8) (fun j σ H' => ∃ (v5 v6 v7 v8 v9 : Option V) (G' : Hp) (os : List Addr), σ = [some (.ref a), some (.ref p), some (.int (0 + (i : Nat))), some (.ref D), some (.ref Fo), v5, v6, v7, v8, v9] ∧ Pq G' H' p (1000 * i + 60 + 60 * j) ∧ G' Fo = none ∧ G' D = some (.lst (bs.map V.ref)) ∧ H' Fo = some (.lst (os.map V.ref)) ∧ os.length ≤ 3 + j ∧ 3 ≤ os.length ∧ (∀ o ∈ os, One K (CSt K) G' o) ∧ ∀ o ∈ bs, One K (CSt K) G' o)
    ⟨_, _, _, _, _, G3, bs, rfl, P8.mono (by omega), gF, gb, hF8, by omega, by omega, hallb, hallb⟩ ?_ ?_⟩
  · rintro j σ H' hj ⟨v5, v6, v7, v8, v9, G', os, rfl, ps, gf, gb, hf, lo, lo3, hall, hallb⟩
    refine ⟨_, rfl, _, rfl, G', p, Fo, _, _, rfl, ps, by omega, hf, nFp, by rw [List.length_map]; omega, by rw [List.length_map]; omega, fun v G1 H1 hv s1 P1 => ?_⟩
    obtain ⟨o1, ho1, rfl⟩ := List.mem_map.mp hv
    refine ⟨_, rfl, _, rfl, G1, p, D, _, _, rfl, P1, by omega, P1.gh _ _ (s1.gg _ _ gb), nDp, by rw [List.length_map]; omega, by rw [List.length_map]; omega, fun v G2 H2 hv s2 P2 => ?_⟩
    obtain ⟨o2, ho2, rfl⟩ := List.mem_map.mp hv
    have s12 := s1.trans s2
    have hf2 := s12.kpc _ _ hf nFp
    have gf2 := s12.out gf (by rw [hf]; exact fun z => by cases z)
    have hall2 : ∀ o ∈ os, One K (CSt K) G2 o := fun o ho => (hall o ho).same s12.gg
    have hallb2 : ∀ o ∈ bs, One K (CSt K) G2 o := fun o ho => (hallb o ho).same s12.gg
    have gb2 := s12.gg _ _ gb
    have one1 := hall2 o1 ho1
    have one2 := hallb2 o2 ho2
    clear s1 s2 s12 P1 ps hf gf hall hallb gb
    refine ⟨_, _, rfl, ?_⟩
    refine ⟨fun σ' H' => ∃ (G1 : Hp) (o3 o4 : Addr), σ' = [some (.ref a), some (.ref p), some (.int (0 + (i : Nat))), some (.ref D), some (.ref Fo), some (.int (0 + (j : Nat))), v6, v7, some (.ref o3), some (.ref o4)] ∧ Pq G1 H' p (1000 * i + 60 + 60 * j + 5) ∧ G1 Fo = none ∧ G1 D = some (.lst (bs.map V.ref)) ∧ H' Fo = some (.lst (os.map V.ref)) ∧ (∀ o ∈ os, One K (CSt K) G1 o) ∧ (∀ o ∈ bs, One K (CSt K) G1 o) ∧ One K (CSt K) G1 o3 ∧ One K (CSt K) G1 o4, ?_, ?_⟩
    · refine ⟨_, rfl, G2, p, _, 3, rfl, P2, by omega, by decide, by decide, fun d G3 H3 s3 P3 _ _ => ⟨rfl, _, rfl, ?_⟩⟩
      have hf3 := s3.kpc _ _ hf2 nFp
      have gf3 := s3.out gf2 (by rw [hf2]; exact fun z => by cases z)
      have hall3 : ∀ o ∈ os, One K (CSt K) G3 o := fun o ho => (hall2 o ho).same s3.gg
      have hallb3 : ∀ o ∈ bs, One K (CSt K) G3 o := fun o ho => (hallb2 o ho).same s3.gg
      refine ite2 (fun _ => ?_) (fun _ => ?_)
      · exact ⟨_, rfl, _, rfl, _, _, rfl, G3, o2, o1, rfl, P3.mono (by omega), gf3, s3.gg _ _ gb2, hf3, hall3, hallb3, one2.same s3.gg, one1.same s3.gg⟩
      · exact ⟨G3, o1, o2, rfl, P3.mono (by omega), gf3, s3.gg _ _ gb2, hf3, hall3, hallb3, one1.same s3.gg, one2.same s3.gg⟩
    rintro σ' H1 ⟨G1, o3, o4, rfl, P1, gf1, gb1, hf1, hall1, hallb1, on3, on4⟩
    refine ⟨_, rfl, _, rfl, _, rfl, G1, p, o3, o4, _, rfl, P1, by omega, on3, on4, fun G2 H2 s2 P2 => ?_, fun o5 G2 H2 s2 P2 on => ?_⟩
    · have hf2 := s2.kpc _ _ hf1 nFp
      refine ⟨_, rfl, rfl, _, rfl, iteF ?_⟩
      exact ⟨_, _, _, _, _, G2, os, rfl, P2.mono (by omega), s2.out gf1 (by rw [hf1]; exact fun z => by cases z), s2.gg _ _ gb1, hf2, by omega, lo3, fun o ho => (hall1 o ho).same s2.gg, fun o ho => (hallb1 o ho).same s2.gg⟩
    · have hf2 := s2.kpc _ _ hf1 nFp
      have gf2 := s2.out gf1 (by rw [hf1]; exact fun z => by cases z)
      refine ⟨_, rfl, rfl, _, rfl, iteT ?_⟩
      refine ⟨_, rfl, .inl ⟨rfl, _, SqL.of hf2⟩, _, rfl, Fo, _, _, rfl, rfl, hf2, by rw [List.length_map]; omega, ?_⟩
      refine ⟨_, _, _, _, _, G2, os ++ [o5], rfl, (P2.mono (by omega)).local_ gf2 nFp, gf2, s2.gg _ _ gb1, ?_, by rw [List.length_append]; show _ + 1 ≤ _; omega, by rw [List.length_append]; omega, fun o ho => ?_, fun o ho => (hallb1 o ho).same s2.gg⟩
      · rw [upd_same, List.map_append]
        rfl
      · rcases List.mem_append.mp ho with ho | ho
        · exact (hall1 o ho).same s2.gg
        · rw [List.mem_singleton.mp ho]
          exact on
  rintro σ H' ⟨v5, v6, v7, v8, v9, G', zs, rfl, ps, gf, _, hf, lo, lo3, hall, _⟩
  have nl : zs.length ≤ 15 := by omega
  -- backwards, too
  refine ⟨_, rfl, _, rfl, Fo, _, rfl, SqL.of hf, fun R hR => ?_⟩
  obtain ⟨_, P1⟩ := ps.loc (o := .lst (zs.map V.ref).reverse) hR
  have hf1 : upd H' R (.lst (zs.map V.ref).reverse) Fo = some (.lst (zs.map V.ref)) := by rw [upd_ne (ne_of_none hf hR)]; exact hf
  have hR1 : upd H' R (.lst (zs.map V.ref).reverse) R = some (.lst (zs.map V.ref).reverse) := upd_same
  generalize upd H' R (.lst (zs.map V.ref).reverse) = H1 at *
  refine ⟨Fo, R, _, _, rfl, rfl, hf1, hR1, by rw [List.length_reverse, List.length_map]; omega, fun B hB => ?_⟩
  obtain ⟨_, P2⟩ := P1.loc (o := .lst (zs.map V.ref ++ (zs.map V.ref).reverse)) hB
  have hB2 : upd H1 B (.lst (zs.map V.ref ++ (zs.map V.ref).reverse)) B = some (.lst ((zs ++ zs.reverse).map V.ref)) := upd_same.trans (by rw [List.map_append, List.map_reverse])
  generalize upd H1 B (.lst (zs.map V.ref ++ (zs.map V.ref).reverse)) = H2 at *
  have hall2 : ∀ o ∈ zs ++ zs.reverse, One K (CSt K) G' o := fun o ho => by
    rcases List.mem_append.mp ho with ho | ho
    · exact hall o ho
    · exact hall o (List.mem_reverse.mp ho)
  have nl2 : (zs ++ zs.reverse).length ≤ 30 := by rw [List.length_append, List.length_reverse]; omega
  generalize zs ++ zs.reverse = ws at hB2 hall2 nl2
  refine ⟨B, rfl, ⟨_, SqL.of hB2⟩, fun D hD => ?_⟩
  have gD := P2.gh.free hD
  refine lc_list (K := K) (a := B) (xs := ws.map V.ref) (fun i H' => Step none G' H2 G' H' ∧ H' D = some (.lst ((List.replicate i true).map V.bl))) ⟨(Step.refl P2.gh).loc hD gD, upd_same⟩ ?_ ?_ ?_
  · rintro i H' _ ⟨s', _⟩
    exact SqL.of (s'.all _ _ hB2)
  · rintro i y H' hy ⟨s', hL⟩
    rw [List.getElem?_map] at hy
    cases eo : ws[i]? with
    | none => rw [eo] at hy; cases hy
    | some o =>
    rw [eo] at hy
    obtain rfl : V.ref o = y := Option.some.inj hy
    have hi' := (List.getElem?_eq_some_iff.mp eo).1
    refine ⟨rfl, ?_⟩
    unfold tYes
    refine iteT ⟨_, rfl, G', o, rfl, s'.gh, hall2 o (List.mem_of_getElem? eo), fun H3 s3 => ?_⟩
    have s4 := s'.trans s3
    have hL3 := s3.all _ _ hL
    refine ⟨_, hL3, by rw [List.length_map, List.length_replicate]; omega, s4.loc hD gD, ?_⟩
    rw [upd_same, rep_app]
  rintro H3 ⟨s3, hD3⟩
  refine ⟨D, _, rfl, SqL.of hD3, ?_⟩
  rw [all_rep]
  exact ⟨true, rfl, iteF ⟨_, _, _, _, _, _, _, _, G', rfl, (P2.step s3).mono (by omega)⟩⟩
end Pf
namespace Pf
open PySem PySem.Spec PyProof.Rows L2
abbrev R : PySem.W.OpenRow := PySem.W.OpenLaw.row PySem.Challenge.rw_splitplans_k21_steps_with_two_inputs
abbrev hk : PySem.W.Hook := Hd.hook 5 fa ex defs
def ob (s : PySem.W.SharedT) : Hd.Al := Hd.atHeap 5 fa ex defs (HandSHeadRun.getT s)
theorem ob_eq (s : PySem.W.SharedT) : ob s = hk.obs s.abs := Hd.at_eq (HandSHeadRun.getT_eq s)
theorem run (w : World) : HandSHeadRun.RunEq R (PySem.W.view R.prog [55]) hk ob 6000 looseN w := by
  intro os
  kernel_rfl
end Pf
open PySem PySem.W PySem.Calls PyProof.Rows
theorem PySem.Challenge.cw_splitplans_k21_steps_with_two_inputs_holds : PySem.Challenge.rw_splitplans_k21_steps_with_two_inputs.Holds := by
  w_on; o_law
  refine HandSHeadRun.head_any (r := OpenLaw.row PySem.Challenge.rw_splitplans_k21_steps_with_two_inputs) (q := view (OpenLaw.row PySem.Challenge.rw_splitplans_k21_steps_with_two_inputs).prog [55]) (H := Pf.hk) (ob := Pf.ob) (M := 6000) (loose := Pf.looseN) (d := HandSHeadRun.topDef (OpenLaw.row PySem.Challenge.rw_splitplans_k21_steps_with_two_inputs).prog 55) (kwd := []) Pf.ob_eq
    (by kernel_rfl) (fun s => by kernel_rfl) Pf.run (by kernel_rfl) (by kernel_rfl) (by kernel_rfl) (by rfl) (by first | assumption | decide +kernel) (by decide +kernel) ⟨rfl, rfl, rfl, rfl, rfl, by decide +kernel⟩ ?hw ?hc
  case hw => w_witness2
  case hc =>
    refine L2.walk_ofE (l := PySem.Challenge.rw_splitplans_k21_steps_with_two_inputs) (n := 63) (k := 9) (x := "_law_script") (CX := C8.CX0) rfl (by decide) (by kernel_rfl) ⟨rfl, by decide, by decide⟩ ?F (fun _ _ _ _ z => z)
    intro w mg fa h Y G hmg0
    obtain ⟨K, KX, c⟩ := Y
    have hmg : mg ("law" : PySem.Str) = some (.ref fa) := by
      have e : (HandSHeadRun.topDef (OpenLaw.row PySem.Challenge.rw_splitplans_k21_steps_with_two_inputs).prog 55).name = ("law" : PySem.Str) := by kernel_rfl
      rw [← e]
      exact hmg0
    have T : Pf.Tx K mg := ⟨c, fun x hx => He.glo_ok KX G (c.fact hx), fun x hx => He.free_ok KX G (c.fact hx), fun x i hx => He.int_ok KX G (c.fact hx), fun x z hx => He.str_ok KX G (c.fact hx)⟩
    have e := hmg.symm.trans (Pf.g_law T)
    cases e
    obtain ⟨fd, F⟩ := Pf.f_law T
    have b := L2.FunD.bindsA (ps := ["_law_script"]) F fun _ _ _ _ _ _ us hl => match us, hl with | [_], _ => rfl
    exact ⟨K, fd, Bs.spLaw K, KX, fun s v => b s [v] rfl, fun H a ns hl hO hS => ⟨a, ns, rfl, Bs.Fz.only hO hS, hl, fun _ => rfl⟩, fun base _ _ => Pf.o_law T F⟩
