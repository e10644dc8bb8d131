/- The project's layer 5 (page): all of its contracts, in one. -/
import Derived.Test.YtnneeojgakjalaaQpg
